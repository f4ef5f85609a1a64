import PyProof.Rows.All
import Wide.All
import OpenK.AllK
import Wide.FinOn
import Lean
import PyProof.EqAt
import PyProof.EqKinds
import PyProof.TupleCall
import PySem.Challenge.RW_talkcourt_k23_after
set_option Elab.async false
set_option linter.all false
set_option maxRecDepth 100000
theorem zzN:¬ (false=true):=Bool.false_ne_true
theorem zzB:(false=true)=False:=Bool.false_eq_true
theorem zzC {α:Type _} {a:α} {l:List α}:(a::l).length=l.length+1:=rfl
theorem zzL {α:Type _}:([]:List α).length=0:=rfl
theorem zzA (n:Nat):0+n=n:=Nat.zero_add n
noncomputable section
namespace L2
open PySem PySem.Spec PyProof.Rows
abbrev Key:=Sum Int Str
def zjj:Key->Value->Bool
 | .inl k,v=>Value.isInt k v
 | .inr x,v=>Value.isStrOf x v
def keyH (w:World):Key->Int
 | .inl k=>hashInt k
 | .inr x=>hashStr w x
theorem zaH:∀ {k:Key} {v:Value},zjj k v=true->(∃ i t,k=Sum.inl i/\v=Value.int i t)\/(∃ x t,k=Sum.inr x/\v=Value.str x t)
 | .inl i,v,h=>by
  obtain ⟨t,e⟩:=Value.isInt_shape (k:=i) (v:=v) h
  exact .inl ⟨i,t,rfl,e⟩
 | .inr x,v,h=>by
  obtain ⟨t,e⟩:=Value.isStrOf_shape (x:=x) (v:=v) h
  exact .inr ⟨x,t,rfl,e⟩
theorem zkE (i:Int) (t:Tok):zjj (.inl i) (.int i t)=true:=by simp [zjj,Value.isInt]
theorem zkD (x:Str) (t:Tok):zjj (.inr x) (.str x t)=true:=by simp [zjj,Value.isStrOf]
theorem zqw (a b:Int):decide ((Sum.inl a:Key)=Sum.inl b)=(a==b):=by
 by_cases e:a=b
 .subst e;simp
 .have h:¬ (Sum.inl a:Key)=Sum.inl b:=fun q=>e (Sum.inl.inj q)
  rw [decide_eq_false h]
  exact (beq_eq_false_iff_ne.mpr e).symm
theorem zqs (a b:Str):decide ((Sum.inr a:Key)=Sum.inr b)=decide (a=b):=by
 by_cases e:a=b
 .subst e;simp
 .have h:¬ (Sum.inr a:Key)=Sum.inr b:=fun q=>e (Sum.inr.inj q)
  rw [decide_eq_false h,decide_eq_false e]
theorem zqv (a:Int) (b:Str):decide ((Sum.inl a:Key)=Sum.inr b)=false:=decide_eq_false (fun q=>nomatch q)
theorem zqt (a:Str) (b:Int):decide ((Sum.inr a:Key)=Sum.inl b)=false:=decide_eq_false (fun q=>nomatch q)
def zaS (prog:Program) (w:World):PySem.KeyKind prog w Key where
 is:=zjj
 hash:=keyH w
 inj:=fun v a b ha hb=>by
  rcases zaH ha with ⟨i,t,rfl,rfl⟩ | ⟨x,t,rfl,rfl⟩
  .rcases zaH hb with ⟨j,u,rfl,e⟩ | ⟨y,u,rfl,e⟩
   .injection e with e1 _;rw [e1]
   .exact nomatch e
  .rcases zaH hb with ⟨j,u,rfl,e⟩ | ⟨y,u,rfl,e⟩
   .exact nomatch e
   .injection e with e1 _;rw [e1]
 byValue:=fun k v h=>by
  rcases zaH h with ⟨i,t,rfl,rfl⟩ | ⟨x,t,rfl,rfl⟩ <;> rfl
 pyHash:=fun hv h=>by
  rcases zaH hv with ⟨i,t,rfl,rfl⟩ | ⟨x,t,rfl,rfl⟩
  .exact wpAny_pyHash_int h
  .exact wpAny_pyHash_str h
 eqBool:=fun hu hv h=>by
  rcases zaH hu with ⟨i,t,rfl,rfl⟩ | ⟨x,t,rfl,rfl⟩
  .rcases zaH hv with ⟨j,u,rfl,rfl⟩ | ⟨y,u,rfl,rfl⟩
   .rw [zqw] at h;exact wpAny_eqBool_int h
   .rw [zqv] at h;exact SeqAt.EqAt.int_str i t y u _ _ _ _ h
  .rcases zaH hv with ⟨j,u,rfl,rfl⟩ | ⟨y,u,rfl,rfl⟩
   .rw [zqt] at h;exact SeqAt.EqAt.str_int x t j u _ _ _ _ h
   .rw [zqs] at h;exact wpAny_eqBool_str h
 «strs»:=fun k x t v h=>by
  rcases zaH h with ⟨i,u,rfl,e⟩ | ⟨y,u,rfl,e⟩
  .exact nomatch e
  .injection e with e1 _
   subst e1
   cases v <;> rfl
theorem zhB (prog:Program) (w:World) (i:Int) (t:Tok):(zaS prog w).is (.inl i) (.int i t)=true:=zkE i t
theorem zhA (prog:Program) (w:World) (x:Str) (t:Tok):(zaS prog w).is (.inr x) (.str x t)=true:=zkD x t
end L2
namespace L2
open PySem PySem.Spec PyProof.Rows
inductive V where
 |non | bl (b:Bool) | int (i:Int) | str (x:Str) | byt (b:Array UInt8) | flt (b:UInt64) | ref (a:Addr) | ty (n:String)
 deriving DecidableEq
def RelV:V->Value->Prop
 | .non,u=>u=Value.none
 | .bl b,u=>u=Value.bool b
 | .int i,u=>∃ t,u=Value.int i t
 | .str x,u=>∃ t,u=Value.str x t
 | .byt b,u=>∃ t,u=Value.bytes b t
 | .flt b,u=>∃ t,u=Value.float b t
 | .ref a,u=>u=Value.ref a
 | .ty n,u=>u=Value.type n
abbrev Vals:List V->List Value->Prop:=Paired RelV
theorem Vals.length {xs:List V} {us:List Value} (r:Vals xs us):xs.length=us.length:=Paired.length r
theorem Vals.get:∀ {xs:List V} {us:List Value} {i:Nat} {x:V},Vals xs us->xs[i]?=some x->∃ u,us[i]?=some u/\RelV x u
 |_,_,_,_,.nil,e=>by simp at e
 |_,_,0,_,.cons r _,e=>by simp at e;subst e;exact ⟨_,rfl,r⟩
 |_,_,i+1,x,.cons _ t,e=>by
  obtain ⟨u,h1,h2⟩:=Vals.get (i:=i) (x:=x) t (by simpa using e)
  exact ⟨u,by simpa using h1,h2⟩
theorem Vals.set {x:V} {u:Value} (r:RelV x u):∀ {xs:List V} {us:List Value} (i:Nat),Vals xs us->Vals (xs.set i x) (us.set i u)
 |_,_,_,.nil=>.nil
 |_,_,0,.cons _ t=>.cons r t
 |_,_,i+1,.cons q t=>.cons q (Vals.set r i t)
theorem Vals.append:∀ {xs ys:List V} {us ws:List Value},Vals xs us->Vals ys ws->Vals (xs++ys) (us++ws)
 |_,_,_,_,.nil,s=>s
 |_,_,_,_,.cons r t,s=>.cons r (Vals.append t s)
theorem Vals.take:∀ {xs:List V} {us:List Value} (n:Nat),Vals xs us->Vals (xs.take n) (us.take n)
 |_,_,0,_=>.nil
 |_,_,_+1,.nil=>.nil
 |_,_,n+1,.cons r t=>.cons r (Vals.take n t)
theorem Vals.drop:∀ {xs:List V} {us:List Value} (n:Nat),Vals xs us->Vals (xs.drop n) (us.drop n)
 |_,_,0,r=>r
 |_,_,_+1,.nil=>.nil
 |_,_,n+1,.cons _ t=>Vals.drop n t
theorem Vals.none_of:∀ {xs:List V} {us:List Value} {i:Nat},Vals xs us->xs[i]?=none->us[i]?=none:=fun {xs us i} r e=>by
 have h1:=r.length
 have h2:xs.length<=i:=List.getElem?_eq_none_iff.mp e
 exact List.getElem?_eq_none_iff.mpr (by omega)
def RelO:Option V->Option Value->Prop
 |some v,some u=>RelV v u
 |none,none=>True
 |_,_=>False
def KV {κ:Type}:List (κ×V)->List (κ×Value)->Prop:=Paired fun (p:κ×V) (q:κ×Value)=>p.1=q.1/\RelV p.2 q.2
def kV:Key->V
 | .inl i=>.int i
 | .inr x=>.str x
inductive HO where
  |lst (xs:List V)
  |tup (xs:List V)
  |dK (kvs:List (Key×V)) | dT (kvs:List (List Key×V))
  |set (S:Int->Bool) (n:Nat)
  |ins (C dx:Addr) (fs:List (Str×V))
  |own (x:Addr)
  |xd (fs:List (Str×V))
  |met (f x:Addr)
  |rng (lo hi:Int)
  |frz (o:Obj) (u:HO)
  |tbl (ps:Array Value)
  |ext (φ:Heap->Prop)
abbrev Hp:=Addr->Option HO
def upd (H:Hp) (a:Addr) (o:HO):Hp:=fun b=>if b=a then some o else H b
theorem zbt {H:Hp} {a:Addr} {o:HO}:upd H a o a=some o:=by unfold upd;rw [if_pos rfl]
theorem zam {H:Hp} {a b:Addr} {o:HO} (h:b≠a):upd H a o b=H b:=by unfold upd;rw [if_neg h]
theorem ne_of {H:Hp} {a b:Addr} {o u:HO} (h:H a=some o) (h':H b=some u) (d:o≠u):a≠b:=by
 intro e;subst e;rw [h] at h';exact d (Option.some.inj h')
theorem zaq {H:Hp} {a b:Addr} {o:HO} (h:H a=some o) (h':H b=none):a≠b:=by
 intro e;subst e;rw [h] at h';cases h'
section
variable (P : Program) (w : World)
def zbn (H:Hp) (h:Heap) (a:Addr):HO->Prop
 | .lst xs=>xs.length<=sizeLine/\∃ (its:List Value) (n:Nat),Vals xs its/\h.get? a=some { cls:=.type "list", data:=.seq its.toArray n }
 | .tup xs=>xs.length<=sizeLine/\∃ its:List Value,Vals xs its/\IsTup h a its.toArray
 | .dK kvs=>kvs.length<=sizeLine/\(a==sysModules)=false/\∃ vs,KV kvs vs/\h.DictOf (zaS P w) a vs
 | .dT kvs=>kvs.length<=sizeLine/\(a==sysModules)=false/\∃ xs:List (List Key×Addr×Value),
   Paired (fun (p:List Key×V) (q:List Key×Addr×Value)=>p.1=q.1/\H q.2.1=some (.tup (p.1.map kV))/\RelV p.2 q.2.2) kvs xs /\
   ∃ o es ep,h.get? a=some o/\o.ExactDict/\o.data=.dict es ep/\es.toList=xs.map (entryOfKey (tupleKind (zaS P w)))/\(xs.map (·.1)).Nodup
 | .set S n=>h.SetOf (intKind P w) a S n
 | .ins C dx fs=>H dx=some (.own a)/\fs.length<=1000/\dx≠a/\h.get? a=some (PySem.W.instObj C dx) /\
   ∃ mA,h.Ns1 dx mA/\(∀ f,RelO (fs.lookup f) (mA f))/\PySem.Within mA (fs.map (·.1))
 | .own _=>∃ o,h.get? a=some o
 | .xd fs=>∃ mA,h.Ns1 a mA/\∀ f,RelO (fs.lookup f) (mA f)
 | .rng lo hi=>∃ t u v,h.get? a=some { cls:=.type "range", data:=.fields #[.int lo t,.int hi u,.int 1 v] }
 | .frz o u=>h.get? a=some o/\zbn H h a u
 | .tbl ps=>h.get? a=some { cls:=.none,data:=.fields ps }
 | .met f x=>h.get? a=some (PySem.W.methodObj (.ref f) (.ref x))
 | .ext φ=>φ h/\(∃ o,h.get? a=some o)/\∀ h1 h2:Heap,φ h1->(∀ o,h1.get? a=some o->h2.get? a=some o)->φ h2
def HOk (H:Hp) (h:Heap):Prop:=∀ a o,H a=some o->zbn P w H h a o
end
section
variable {P : Program} {w : World} {H H' : Hp} {h h' : Heap} {a : Addr} {o : HO}
theorem zbn.lt (x:zbn P w H h a o):a<h.objs.size:=by
 cases o with
 |lst xs=>obtain ⟨_,_,_,_,e⟩:=x;exact Heap.lt_size e
 |tup xs=>obtain ⟨_,_,_,p⟩:=x;exact p.lt
 |dK kvs=>obtain ⟨_,_,_,_,o,_,_,e,_⟩:=x;exact Heap.lt_size e
 |dT kvs=>obtain ⟨_,_,_,_,o,_,_,e,_⟩:=x;exact Heap.lt_size e
 |set S n=>obtain ⟨o,_,_,_,e,_⟩:=x;exact Heap.lt_size e
 |ins C dx fs=>obtain ⟨_,_,_,e,_⟩:=x;exact Heap.lt_size e
 |own y=>obtain ⟨_,e⟩:=x;exact Heap.lt_size e
 |xd fs=>obtain ⟨_,⟨_,_,_,e,_⟩,_⟩:=x;exact Heap.lt_size e
 |rng lo hi=>obtain ⟨_,_,_,e⟩:=x;exact Heap.lt_size e
 |frz ob u=>obtain ⟨e,_⟩:=x;exact Heap.lt_size e
 |tbl ps=>exact Heap.lt_size (show h.get? a=some _ from x)
 |met f y=>exact Heap.lt_size (show h.get? a=some _ from x)
 |ext φ=>obtain ⟨_,⟨_,e⟩,_⟩:=x;exact Heap.lt_size e
theorem Paired.mapP {α β:Type} {F G:α->β->Prop}:∀ {l₁:List α} {l₂:List β},Paired F l₁ l₂->(∀ a b,F a b->G a b)->Paired G l₁ l₂
 |_,_,.nil,_=>.nil
 |_,_,.cons r t,f=>.cons (f _ _ r) (Paired.mapP t f)
theorem zbn.stay (x:zbn P w H h a o) (k:∀ b u,(b=a\/H b=some (.own a))->h.get? b=some u->h'.get? b=some u)
  (ho:∀ b,H b=some (.own a)->H' b=some (.own a)) (ht:∀ b xs,H b=some (.tup xs)->H' b=some (.tup xs)):zbn P w H' h' a o:=by
 induction o with
 |lst xs=>obtain ⟨z,its,n,r,e⟩:=x;exact ⟨z,its,n,r,k _ _ (.inl rfl) e⟩
 |tup xs=>obtain ⟨z,its,r,ob,e,c⟩:=x;exact ⟨z,its,r,ob,k _ _ (.inl rfl) e,c⟩
 |dK kvs=>obtain ⟨z,y,vs,r,ob,es,ep,e,c⟩:=x;exact ⟨z,y,vs,r,ob,es,ep,k _ _ (.inl rfl) e,c⟩
 |dT kvs =>
  obtain ⟨z,y,xs,r,ob,es,ep,e,c⟩:=x
  exact ⟨z,y,xs,Paired.mapP r fun p q z=>⟨z.1,ht _ _ z.2.1,z.2.2⟩,ob,es,ep,k _ _ (.inl rfl) e,c⟩
 |set S n=>obtain ⟨ob,es,ep,t,e,c⟩:=x;exact ⟨ob,es,ep,t,k _ _ (.inl rfl) e,c⟩
 |ins C dx fs =>
  obtain ⟨d,z,ne,e,mA,⟨od,es,ep,e2,c⟩,r⟩:=x
  exact ⟨ho _ d,z,ne,k _ _ (.inl rfl) e,mA,⟨od,es,ep,k _ _ (.inr d) e2,c⟩,r⟩
 |own y=>obtain ⟨ob,e⟩:=x;exact ⟨ob,k _ _ (.inl rfl) e⟩
 |xd fs=>obtain ⟨mA,⟨od,es,ep,e,c⟩,r⟩:=x;exact ⟨mA,⟨od,es,ep,k _ _ (.inl rfl) e,c⟩,r⟩
 |rng lo hi=>obtain ⟨t,u,v,e⟩:=x;exact ⟨t,u,v,k _ _ (.inl rfl) e⟩
 |frz ob u ih=>obtain ⟨e,q⟩:=x;exact ⟨k _ _ (.inl rfl) e,ih q⟩
 |tbl ps =>
  have e:h.get? a=some { cls:=.none,data:=.fields ps }:=x
  show h'.get? a=some { cls:=.none,data:=.fields ps }
  exact k a _ (.inl rfl) e
 |met f y =>
  have e:h.get? a=some (PySem.W.methodObj (.ref f) (.ref y)):=x
  show h'.get? a=some (PySem.W.methodObj (.ref f) (.ref y))
  exact k a _ (.inl rfl) e
 |ext φ=>obtain ⟨p,⟨o,e⟩,st⟩:=x;exact ⟨st _ _ p fun o q=>k _ _ (.inl rfl) q,⟨o,k _ _ (.inl rfl) e⟩,st⟩
theorem HOk.lt (x:HOk P w H h) (e:H a=some o):a<h.objs.size:=(x a o e).lt
theorem HOk.fresh (x:HOk P w H h) (e:h.objs.size<=a):H a=none:=by
 cases q:H a with
 |none=>rfl
 |some u=>exact absurd (Nat.lt_of_lt_of_le (x.lt q) e) (Nat.lt_irrefl _)
theorem HOk.kept (x:HOk P w H h) (k:∀ b u,h.get? b=some u->h'.get? b=some u):HOk P w H h':=fun a o e =>
 (x a o e).stay (fun b u _ q=>k b u q) (fun _ q=>q) fun _ _ q=>q
theorem HOk.laid (x:HOk P w H h) (k:∀ b u,h.get? b=some u->h'.get? b=some u) (hp:h.objs.size<=a) (new:zbn P w (upd H a o) h' a o):HOk P w (upd H a o) h':=fun b u e=>by
 have hn:=x.fresh hp
 by_cases hb:b=a
 .subst hb;rw [zbt] at e;cases e;exact new
 .rw [zam hb] at e
  exact (x b u e).stay (fun c v _ q=>k c v q) (fun c q=>by rw [zam (zaq q hn)];exact q) fun c xs q=>by rw [zam (zaq q hn)];exact q
end
def Rd (H:Hp) (a:Addr) (u:HO):Prop:=H a=some u\/∃ o,H a=some (.frz o u)
theorem Rd.ok {P:Program} {w:World} {H:Hp} {h:Heap} {a:Addr} {u:HO} (r:Rd H a u) (x:HOk P w H h):zbn P w H h a u:=by
 rcases r with r | ⟨o,r⟩
 .exact x a u r
 .obtain ⟨_,q⟩:=x a _ r
  exact q
def Mut:Option HO->Prop
 |some (.lst _)=>True
 |some (.dK _)=>True
 |some (.dT _)=>True
 |some (.set _ _)=>True
 |some (.ins _ _ _)=>True
 |some (.ext _)=>True
 |_=>False
section
variable {P : Program} {w : World} {H : Hp} {h h' : Heap} {x e : Addr} {o' : HO}
theorem HOk.write (ok:HOk P w H h) (mu:Mut (H x)) (he:e=x\/H e=some (.own x)) (k:∀ b u,b≠e->h.get? b=some u->h'.get? b=some u) (heo:∃ u,h'.get? e=some u)
  (new:zbn P w (upd H x o') h' x o'):HOk P w (upd H x o') h':=fun b u q=>by
 have nown:∀ c y,H c=some (.own y)->c≠x:=fun c y r z=>by subst z;rw [r] at mu;exact mu
 have ntup:∀ c xs,H c=some (.tup xs)->c≠x:=fun c xs r z=>by subst z;rw [r] at mu;exact mu
 by_cases hb:b=x
 .subst hb;rw [zbt] at q;cases q;exact new
 .rw [zam hb] at q
  by_cases hbe:b=e
  .have q':H b=some (.own x):=by
    rcases he with z | z
    .exact absurd (hbe.trans z) hb
    .rw [hbe];exact z
   rw [q] at q';cases q'
   obtain ⟨v,hv⟩:=heo
   exact ⟨v,by rw [hbe];exact hv⟩
  .refine (ok b u q).stay (fun c v hc r=>k c v ?_ r) (fun c r=>by rw [zam (nown c b r)];exact r) fun c xs r=>by rw [zam (ntup c xs r)];exact r
   rcases hc with rfl | hc
   .exact hbe
   .rintro rfl
    rcases he with z | z
    .exact nown c b hc z
    .rw [hc] at z;cases z;exact hb rfl
end
structure Un (fs ex:List Addr) (H H':Hp) (h h':Heap):Prop where
 keep:∀ b o,h.get? b=some o->H b=none->b∉fs->b∉ex->h'.get? b=some o
 slot:∀ b o,h.get? b=some o->H b=none->b∈fs->b∉ex->∃ sl,h'.get? b=some { o with slots:=sl }
 free:∀ b o,h.get? b=some o->H b=none->b∉ex->H' b=none
 there:∀ b o,h.get? b=some o->b∉ex->∃ o',h'.get? b=some o'
 tups:∀ b xs,H b=some (.tup xs)->H' b=some (.tup xs)
 frzs:∀ b o u,H b=some (.frz o u)->H' b=some (.frz o u)
 tbls:∀ b ps,H b=some (.tbl ps)->∃ more,H' b=some (.tbl (ps++more))
section
variable {fs fs' ex ex' : List Addr} {H H1 H2 : Hp} {h h1 h2 h' : Heap} {a x e : Addr} {o : HO}
theorem Un.any (u:Un fs ex H H1 h h1) {b:Addr} {ob:Obj} (q:h.get? b=some ob) (n:H b=none) (hx:b∉ex):∃ sl,h1.get? b=some { ob with slots:=sl }:=by
 by_cases hb:b∈fs
 .exact u.slot b ob q n hb hx
 .exact ⟨ob.slots,u.keep b ob q n hb hx⟩
theorem Un.kept (k:∀ b u,h.get? b=some u->h'.get? b=some u):Un fs ex H H h h' :=
 ⟨fun b ob q _ _ _=>k b ob q,fun b ob q _ _ _=>⟨ob.slots,k b ob q⟩,fun _ _ _ n _=>n,fun b ob q _=>⟨ob,k b ob q⟩,fun _ _ q=>q,fun _ _ _ q=>q,fun _ ps q=>⟨#[],by rw [q];simp⟩⟩
theorem Un.refl:Un fs ex H H h h:=Un.kept fun _ _ q=>q
theorem Un.laid (k:∀ b u,h.get? b=some u->h'.get? b=some u) (hp:h.objs.size<=a) (hn:H a=none):Un fs ex H (upd H a o) h h' where
 keep:=fun b u q _ _ _=>k b u q
 slot:=fun b u q _ _ _=>⟨u.slots,k b u q⟩
 free:=fun b u q n _=>by rw [zam (Nat.ne_of_lt (Nat.lt_of_lt_of_le (Heap.lt_size q) hp))];exact n
 there:=fun b u q _=>⟨u,k b u q⟩
 tups:=fun b xs q=>by rw [zam (zaq q hn)];exact q
 frzs:=fun b u xs q=>by rw [zam (zaq q hn)];exact q
 tbls:=fun b ps q=>⟨#[],by rw [zam (zaq q hn),q];simp⟩
theorem Un.write (mu:Mut (H x)) (he:e=x\/H e=some (.own x)) (k:∀ b u,b≠e->h.get? b=some u->h'.get? b=some u) (heo:∃ u,h'.get? e=some u):Un fs ex H (upd H x o) h h':=by
 have hx:∀ b,H b=none->b≠x:=fun b n z=>by subst z;rw [n] at mu;exact mu
 have hb:∀ b,H b=none->b≠e:=fun b n z=>by
  subst z
  rcases he with r | r
  .exact hx b n r
  .rw [n] at r;cases r
 have hm:∀ b u,H b=some u->¬ Mut (some u)->b≠x:=fun b u q nm z=>by subst z;rw [q] at mu;exact nm mu
 refine ⟨fun b u q n _ _=>k b u (hb b n) q,fun b u q n _ _=>⟨u.slots,k b u (hb b n) q⟩,fun b u q n _=>by rw [zam (hx b n)];exact n,fun b u q _=>?_,
  fun b xs q=>by rw [zam (hm b _ q fun z=>z)];exact q,fun b u xs q=>by rw [zam (hm b _ q fun z=>z)];exact q,fun b ps q=>⟨#[],by rw [zam (hm b _ q fun z=>z),q];simp⟩⟩
 by_cases hbe:b=e
 .subst hbe;exact heo
 .exact ⟨u,k b u hbe q⟩
end
def trk (h:Heap) (H:Hp):List Addr:=(List.range h.objs.size).filter fun a=>(H a).isSome
def hidT (h:Heap) (H:Hp):Heap:=PySem.W.hideAll h (trk h H)
theorem zkJ (h:Heap) (H:Hp):(hidT h H).objs.size=h.objs.size:=PySem.W.hideAll_size _ _
theorem zmC {h:Heap} {H:Hp} {b:Addr} {o:Obj} (e:h.get? b=some o) (n:H b=none):(hidT h H).get? b=some o :=
 PySem.W.hideAll_get _ e fun hm=>by
  have q:(H b).isSome=true:=(List.mem_filter.mp hm).2
  rw [n] at q;simp at q
theorem zoc {h:Heap} {H:Hp} {b:Addr} {o:Obj} (e:(hidT h H).get? b=some o):h.get? b=some o/\H b=none:=by
 have e':h.get? b=some o:=PySem.W.of_hideAll (trk h H) e
 refine ⟨e',?_⟩
 cases q:H b with
 |none=>rfl
 |some x =>
  have hm:b∈trk h H:=List.mem_filter.mpr ⟨List.mem_range.mpr (Heap.lt_size e'),by simp [q]⟩
  have z:(hidT h H).get? b=none:=PySem.W.hideAll_none (trk h H) hm
  rw [z] at e;cases e
def zo8 (g h:Heap) (L:Addr):List (Addr×Obj):=(List.range h.objs.size).filterMap fun a=>if a=L\/(g.get? a).isSome=true then none else (h.get? a).map fun o=>(a,o)
def rest (g h:Heap) (L d:Addr):List (Addr×Obj):=(zo8 g h L).filter fun p=>decide (p.1≠d)
end L2
namespace L2
open PySem PySem.Spec PyProof.Rows
structure Mod (K:PySem.W.Frag) (mg:Str->Option Value) (base:Heap):Prop where
 kin:K.In base
 glob:base.Ns mainGlobals mg
 blt:∃ mb,base.Ns builtinsNs mb/\∀ x:Str,x ≠ "__name__" -> mb x=bootBuiltins x
 nolimit:base.NoLimit
structure Cx where
 prog:Program
 w:World
 K:PySem.W.Frag
 mg:Str->Option Value
 base:Heap
 A:Around
 N:List Str
 s₀:Shared
 H₀:Hp
 env:Env
 outer:List Env
 stack:List Env
 ex:List Addr
 fn:Str->Bool
 calm:Bool
 pn:List (Addr×Obj)
 xe:Value->Shared->Prop
def frs (l:List Env):List Addr:=l.filterMap (·.frame)
abbrev Cx.fs (X:Cx):List Addr:=frs X.outer
def Vis (sc:Scope) (x:Str):Prop:=sc.names.lookup x=some .local\/sc.names.lookup x=some .cell\/sc.names.lookup x=some .free
def Loc (sc:Scope) (x:Str):Prop:=sc.names.lookup x=some .local\/sc.names.lookup x=some .cell
def Look (env:Env) (h:Heap) (m:Str->Option Value) (x:Str) (u:Value):Prop :=
 (env.kindOf x=some .local/\m x=some u)\/((env.kindOf x=some .cell\/env.kindOf x=some .free)/\∃ c,env.cells.lookup x=some c/\h.IsCell c (some u))
structure Cx.Ok (X:Cx):Prop where
 mod:Mod X.K X.mg X.base
 kind:X.env.scope.kind=.function
 glob:X.env.globals=mainGlobals
 blt:X.env.builtins=builtinsNs
 above:X.s₀.heap.objs.size<=X.env.locals
 inj:∀ x y c,X.env.cells.lookup x=some c->X.env.cells.lookup y=some c->x=y
 has:∀ x,(X.env.kindOf x=some .cell\/X.env.kindOf x=some .free)->∃ c,X.env.cells.lookup x=some c
 cab:∀ x c,X.fn x=true->X.env.cells.lookup x=some c->X.s₀.heap.objs.size<=c
 hd:X.calm=true->X.A.handled=none
 frames:X.A.frames=some X.stack
 stk:X.stack=X.outer\/(X.stack=X.env::X.outer/\X.env.frame=some X.env.locals)
 exf:∀ b∈X.ex,b≠X.env.locals/\∀ x c,X.env.cells.lookup x=some c->c≠b
 bs:∀ b o,X.base.get? b=some o->X.s₀.heap.get? b=some o/\X.H₀ b=none
 bsz:X.base.objs.size<=X.s₀.heap.objs.size
 noex:∀ b o,X.base.get? b=some o->b∉X.ex
 exfs:∀ b∈X.ex,b∉X.fs
 funs:X.s₀.heap.FunFrames X.base X.outer
 frf:∀ b∈X.fs,X.H₀ b=none
structure Inv (X:Cx) (pins:List (Addr×Obj)) (σ:List (Option V)) (H:Hp) (s:Shared):Prop where
 ok:X.Ok
 os:s.os=X.s₀.os
 bare:AllBare s.gens
 base:Un X.fs X.ex X.H₀ H X.s₀.heap s.heap
 loc:∃ m,s.heap.Ns X.env.locals m/\∀ (i:Nat) (x:Str) (v:V),X.N[i]?=some x->σ[i]?=some (some v)->Vis X.env.scope x->∃ u,RelV v u/\Look X.env s.heap m x u
 cell:∀ x c,X.env.cells.lookup x=some c->∃ v,s.heap.IsCell c v
 free:H X.env.locals=none
 freeC:∀ x c,X.env.cells.lookup x=some c->H c=none
 pin:∀ p∈X.pn++pins,s.heap.get? p.1=some p.2/\H p.1=none/\p.1≠X.env.locals/\p.1∉X.fs/\∀ v,p.2.data≠.cell v
 hok:HOk X.prog X.w H s.heap
 len:σ.length=X.N.length
section
variable {X : Cx} {pins : List (Addr × Obj)} {σ : List (Option V)} {H H' : Hp} {s : Shared} {h' : Heap}
theorem Cx.Ok.nofr (ok:X.Ok) {b:Addr} {o:Obj} (e:X.base.get? b=some o):b∉X.fs:=fun hb=>by
 have:=(ok.funs.mem hb).1
 rw [e] at this;cases this
theorem Inv.bs (I:Inv X pins σ H s):∀ b o,X.base.get? b=some o->s.heap.get? b=some o/\H b=none:=fun b o e =>
 ⟨I.base.keep b o (I.ok.bs b o e).1 (I.ok.bs b o e).2 (I.ok.nofr e) (I.ok.noex b o e),I.base.free b o (I.ok.bs b o e).1 (I.ok.bs b o e).2 (I.ok.noex b o e)⟩
theorem Inv.bk (I:Inv X pins σ H s):∀ b o,X.base.get? b=some o->s.heap.get? b=some o:=fun b o e=>(I.bs b o e).1
theorem Inv.mod (I:Inv X pins σ H s):Mod X.K X.mg X.base:=I.ok.mod
theorem Inv.kIn (I:Inv X pins σ H s):X.K.In s.heap:=I.ok.mod.kin.keeps I.bk
theorem Inv.lt (I:Inv X pins σ H s):X.env.locals<s.heap.objs.size:=let ⟨_,hn,_⟩:=I.loc;hn.lt
theorem Inv.sz (I:Inv X pins σ H s):X.s₀.heap.objs.size<=s.heap.objs.size:=Nat.le_trans I.ok.above (Nat.le_of_lt I.lt)
theorem Inv.nofs (I:Inv X pins σ H s) {a:Addr} (h:s.heap.objs.size<=a):a∉X.fs:=fun hb=>by
 obtain ⟨_,o,ho,_⟩:=I.ok.funs.mem hb
 exact absurd (Nat.lt_of_lt_of_le (Heap.lt_size ho) (Nat.le_trans I.sz h)) (Nat.lt_irrefl _)
theorem Inv.cne (I:Inv X pins σ H s):∀ x c,X.env.cells.lookup x=some c->c≠X.env.locals:=fun x c e z=>by
 obtain ⟨v,o,ho,hd⟩:=I.cell x c e
 obtain ⟨m,⟨o',es,ep,ho',hd',_⟩,_⟩:=I.loc
 rw [z,ho'] at ho;cases ho;rw [hd'] at hd;cases hd
theorem Inv.funs (I:Inv X pins σ H s):s.heap.FunFrames X.base X.outer:=by
 have all:∀ (l:List Env),(∀ b∈frs l,b∈X.fs)->X.s₀.heap.FunFrames X.base l->s.heap.FunFrames X.base l:=by
  intro l
  induction l with
  |nil=>intro _ _;trivial
  |cons env r ih =>
   intro hs hl
   obtain ⟨hk,⟨L,o,hf,hn,ho,hd⟩,hr⟩:=hl
   have hL:L∈X.fs:=hs L (by unfold frs;rw [List.filterMap_cons,hf];exact List.mem_cons_self)
   obtain ⟨sl,e⟩:=I.base.slot L o ho (I.ok.frf L hL) hL fun z=>I.ok.exfs L z hL
   exact ⟨hk,⟨L,_,hf,hn,e,hd⟩,ih (fun b hb=>hs b (by unfold frs;rw [List.filterMap_cons,hf];exact List.mem_cons_of_mem _ hb)) hr⟩
 exact all X.outer (fun _ hb=>hb) I.ok.funs
theorem Inv.stack (I:Inv X pins σ H s):s.heap.FunFrames X.base X.stack:=by
 rcases I.ok.stk with e | ⟨e,hf⟩
 .rw [e];exact I.funs
 .rw [e]
  obtain ⟨m,hn,_⟩:=I.loc
  refine .cons (by rw [I.ok.kind];decide) hf hn ?_ I.funs
  exact Heap.get?_none_of_le (Nat.le_trans I.ok.bsz I.ok.above)
theorem Inv.stkSub (I:Inv X pins σ H s):∀ b∈frs X.stack,b∈X.env.locals::X.fs:=fun b hb=>by
 rcases I.ok.stk with e | ⟨e,hf⟩
 .rw [e] at hb;exact List.mem_cons_of_mem _ hb
 .rw [e] at hb
  unfold frs at hb
  rw [List.filterMap_cons,hf] at hb
  exact hb
theorem Inv.stkFree (I:Inv X pins σ H s):∀ b∈frs X.stack,H b=none:=fun b hb=>by
 rcases List.mem_cons.mp (I.stkSub b hb) with e | hb
 .rw [e];exact I.free
 .obtain ⟨_,o,ho,_⟩:=I.ok.funs.mem hb
  exact I.base.free b o ho (I.ok.frf b hb) fun z=>I.ok.exfs b z hb
theorem Inv.step {g':Array GenState} {t':Nat} {d':Drawn} {ch:List Addr} (I:Inv X pins σ H s)
  (hch:∀ b∈ch,(b∈X.ex\/X.s₀.heap.objs.size<=b)/\b≠X.env.locals/\(∀ x c,X.env.cells.lookup x=some c->c≠b)/\∀ p∈X.pn++pins,p.1≠b)
  (keep:∀ b o,b≠X.env.locals->b∉X.fs->b∉ch->s.heap.get? b=some o->H b=none->h'.get? b=some o)
  (slot:∀ b o,b≠X.env.locals->b∈X.fs->b∉ch->s.heap.get? b=some o->H b=none->∃ sl,h'.get? b=some { o with slots:=sl }) (free:∀ b o,b∉ch->s.heap.get? b=some o->H b=none->H' b=none)
  (there:∀ b o,b∉ch->s.heap.get? b=some o->∃ o',h'.get? b=some o')
  (tups:∀ b xs,H b=some (.tup xs)->H' b=some (.tup xs)) (frzs:∀ b o u,H b=some (.frz o u)->H' b=some (.frz o u)) (tbls:∀ b ps,H b=some (.tbl ps)->∃ more,H' b=some (.tbl (ps++more)))
  (ns:∀ m,s.heap.Ns X.env.locals m->h'.Ns X.env.locals m) (hok:HOk X.prog X.w H' h') (hg:AllBare g') :
  Inv X pins σ H' { s with heap:=h',gens:=g',drawn:=d',toks:=t' }:=by
 have neL:∀ b o,X.s₀.heap.get? b=some o->b≠X.env.locals:=fun b o e=>Nat.ne_of_lt (Nat.lt_of_lt_of_le (Heap.lt_size e) I.ok.above)
 have neC:∀ b o,X.s₀.heap.get? b=some o->b∉X.ex->b∉ch:=fun b o e hx hb=>by
  rcases (hch b hb).1 with z | z
  .exact hx z
  .exact absurd (Nat.lt_of_lt_of_le (Heap.lt_size e) z) (Nat.lt_irrefl _)
 have cellK:∀ x c,X.env.cells.lookup x=some c->∀ v,s.heap.IsCell c v->h'.IsCell c v:=fun x c e v ⟨o,ho,hd⟩=>by
  have nch:c∉ch:=fun z=>(hch c z).2.2.1 x c e rfl
  by_cases hc:c∈X.fs
  .obtain ⟨sl,q⟩:=slot c o (I.cne x c e) hc nch ho (I.freeC x c e)
   exact ⟨_,q,hd⟩
  .exact ⟨o,keep c o (I.cne x c e) hc nch ho (I.freeC x c e),hd⟩
 refine ⟨I.ok,I.os,hg,⟨fun b o e n hb hx=>?_,fun b o e n hb hx=>?_,fun b o e n hx=>?_,fun b o e hx=>?_,fun b xs e=>tups b xs (I.base.tups b xs e),fun b o xs e=>frzs b o xs (I.base.frzs b o xs e),fun b ps e=>?_⟩,?_,fun x c e=>?_,?_,fun x c e=>?_,fun p hp=>?_,hok,I.len⟩
 .exact keep b o (neL b o e) hb (neC b o e hx) (I.base.keep b o e n hb hx) (I.base.free b o e n hx)
 .obtain ⟨sl,e1⟩:=I.base.slot b o e n hb hx
  obtain ⟨sl',e2⟩:=slot b _ (neL b o e) hb (neC b o e hx) e1 (I.base.free b o e n hx)
  exact ⟨sl',e2⟩
 .obtain ⟨o',e1⟩:=I.base.there b o e hx
  exact free b o' (neC b o e hx) e1 (I.base.free b o e n hx)
 .obtain ⟨o',e1⟩:=I.base.there b o e hx
  exact there b o' (neC b o e hx) e1
 .obtain ⟨m1,e1⟩:=I.base.tbls b ps e
  obtain ⟨m2,e2⟩:=tbls b _ e1
  exact ⟨m1++m2,by rw [e2,Array.append_assoc]⟩
 .obtain ⟨m,hn,hl⟩:=I.loc
  refine ⟨m,ns m hn,fun i x v e1 e2 e3=>?_⟩
  obtain ⟨u,r,l⟩:=hl i x v e1 e2 e3
  refine ⟨u,r,?_⟩
  rcases l with l | ⟨k,c,e,z⟩
  .exact .inl l
  .exact .inr ⟨k,c,e,cellK x c e _ z⟩
 .obtain ⟨v,z⟩:=I.cell x c e
  exact ⟨v,cellK x c e v z⟩
 .obtain ⟨m,⟨o,_,_,ho,_⟩,_⟩:=I.loc
  exact free _ o (fun z=>(hch _ z).2.1 rfl) ho I.free
 .obtain ⟨v,o,ho,hd⟩:=I.cell x c e
  exact free c o (fun z=>(hch c z).2.2.1 x c e rfl) ho (I.freeC x c e)
 .obtain ⟨e,n,ne,nf,d⟩:=I.pin p hp
  have nch:p.1∉ch:=fun z=>(hch p.1 z).2.2.2 p hp rfl
  exact ⟨keep p.1 p.2 ne nf nch e n,free p.1 p.2 nch e n,ne,nf,d⟩
theorem Inv.un {t':Nat} (I:Inv X pins σ H s) (u:Un X.fs [] H H' s.heap h') (hok:HOk X.prog X.w H' h'):Inv X pins σ H' { s with heap:=h',toks:=t' }:=by
 obtain ⟨m,⟨o,es,ep,ho,r⟩,_⟩:=id I.loc
 obtain ⟨sl,hL⟩:=u.any ho I.free (by simp)
 exact I.step (g':=s.gens) (d':=s.drawn) (ch:=[]) (fun _ z=>nomatch z) (fun b o _ hb _ e n=>u.keep b o e n hb (by simp)) (fun b o _ hb _ e n=>u.slot b o e n hb (by simp)) (fun b o _ e n=>u.free b o e n (by simp)) (fun b o _ e=>u.there b o e (by simp)) u.tups u.frzs u.tbls (fun m' hm=>by
  obtain ⟨o',es',ep',ho',r'⟩:=hm
  rw [ho] at ho';cases ho'
  exact ⟨_,es',ep',hL,r'⟩) hok I.bare
theorem Inv.call {g':Array GenState} {t':Nat} {d':Drawn} {ch:List Addr} (I:Inv X pins σ H s) (u:Un (frs X.stack) ch H H' s.heap h') (hok:HOk X.prog X.w H' h') (hg:AllBare g')
  (hch:∀ b∈ch,(b∈X.ex\/X.s₀.heap.objs.size<=b)/\b≠X.env.locals/\(∀ x c,X.env.cells.lookup x=some c->c≠b)/\∀ p∈X.pn++pins,p.1≠b) :
  Inv X pins σ H' { s with heap:=h',gens:=g',drawn:=d',toks:=t' }:=by
 obtain ⟨m,⟨o,es,ep,ho,r⟩,_⟩:=id I.loc
 obtain ⟨sl,hL⟩:=u.any ho I.free fun z=>(hch _ z).2.1 rfl
 exact I.step (ch:=ch) hch (fun b o hL hb hc e n=>u.keep b o e n (fun z=>(List.mem_cons.mp (I.stkSub b z)).elim hL hb) hc) (fun b o _ _ hc e n=>u.any e n hc) (fun b o hc e n=>u.free b o e n hc) (fun b o hc e=>u.there b o e hc) u.tups u.frzs u.tbls (fun m' hm=>by
  obtain ⟨o',es',ep',ho',r'⟩:=hm
  rw [ho] at ho';cases ho'
  exact ⟨_,es',ep',hL,r'⟩) hok hg
theorem Inv.turned {t':Nat} {it:Addr} (I:Inv X pins σ H s) (k:∀ b o,b≠it->s.heap.get? b=some o->h'.get? b=some o) (hn:H it=none) (hL:it≠X.env.locals)
  (h1:it∈X.ex\/X.s₀.heap.objs.size<=it) (h2:∀ x c,X.env.cells.lookup x=some c->c≠it) (h3:∀ p∈X.pn++pins,p.1≠it):Inv X pins σ H { s with heap:=h',toks:=t' }:=by
 have nit:∀ b u,H b=some u->b≠it:=fun b u e z=>by rw [z,hn] at e;cases e
 refine I.step (g':=s.gens) (d':=s.drawn) (ch:=[it]) (fun b hb=>?_) (fun b o _ _ hc e _=>k b o (fun z=>hc (by simp [z])) e) (fun b o _ _ hc e _=>⟨o.slots,k b o (fun z=>hc (by simp [z])) e⟩) (fun _ _ _ _ n=>n)
  (fun b o hc e=>⟨o,k b o (fun z=>hc (by simp [z])) e⟩) (fun _ _ e=>e) (fun _ _ _ e=>e) (fun b ps e=>⟨#[],by rw [e];simp⟩) (fun m hm=>?_) (fun b u e=>?_) I.bare
 .have e:b=it:=by simpa using hb
  subst e
  exact ⟨h1,hL,h2,h3⟩
 .obtain ⟨o,es,ep,ho,r⟩:=hm
  exact ⟨o,es,ep,k _ o (Ne.symm hL) ho,r⟩
 .refine (I.hok b u e).stay (fun c v hc q=>k c v ?_ q) (fun _ q=>q) fun _ _ q=>q
  rcases hc with z | z
  .rw [z];exact nit b u e
  .exact nit c _ z
theorem Inv.tok (I:Inv X pins σ H s) (t:Nat):Inv X pins σ H { s with toks:=t }:=I.un (h':=s.heap) (t':=t) Un.refl I.hok
theorem Inv.kept {t':Nat} (I:Inv X pins σ H s) (k:∀ b u,s.heap.get? b=some u->h'.get? b=some u):Inv X pins σ H { s with heap:=h',toks:=t' }:=I.un (Un.kept k) (I.hok.kept k)
theorem Inv.laid {a:Addr} {o:HO} {t':Nat} (I:Inv X pins σ H s) (k:∀ b u,s.heap.get? b=some u->h'.get? b=some u) (hp:s.heap.objs.size<=a) (new:zbn X.prog X.w (upd H a o) h' a o) :
  Inv X pins σ (upd H a o) { s with heap:=h',toks:=t' }:=I.un (Un.laid k hp (I.hok.fresh hp)) (I.hok.laid k hp new)
theorem Inv.write {x e:Addr} {o:HO} {t':Nat} (I:Inv X pins σ H s) (mu:Mut (H x)) (he:e=x\/H e=some (.own x)) (k:∀ b u,b≠e->s.heap.get? b=some u->h'.get? b=some u) (heo:∃ u,h'.get? e=some u)
  (new:zbn X.prog X.w (upd H x o) h' x o):Inv X pins σ (upd H x o) { s with heap:=h',toks:=t' }:=I.un (Un.write mu he k heo) (I.hok.write mu he k heo new)
theorem Inv.pins_of {pins':List (Addr×Obj)} (I:Inv X pins σ H s) (h:∀ p∈pins',s.heap.get? p.1=some p.2/\H p.1=none/\p.1≠X.env.locals/\p.1∉X.fs/\∀ v,p.2.data≠.cell v):Inv X pins' σ H s :=
 ⟨I.ok,I.os,I.bare,I.base,I.loc,I.cell,I.free,I.freeC,fun p hp=>(List.mem_append.mp hp).elim (fun z=>I.pin p (List.mem_append_left _ z)) (h p),I.hok,I.len⟩
theorem zit {N:List Str} (hN:N.Nodup) {i j:Nat} {x:Str} (a:N[i]?=some x) (b:N[j]?=some x):i=j:=by
 obtain ⟨h1,e1⟩:=List.getElem?_eq_some_iff.mp a
 obtain ⟨h2,e2⟩:=List.getElem?_eq_some_iff.mp b
 exact (List.getElem_inj hN).mp (e1.trans e2.symm)
theorem zfV {M:Model} {A:Around} {E:Value->Shared->Prop} {i:Nat} {x:Str} {v:V} {u:Value} {Q:Unit->Shared->Prop} (I:Inv X pins σ H s) (hN:X.N.Nodup) (hi:X.N[i]?=some x) (hx:Loc X.env.scope x) (r:RelV v u)
  (h:∀ s',Inv X pins (σ.set i (some v)) H s'->(∃ a,Heap.SameBut a s.heap s'.heap/\(a=X.env.locals\/X.env.cells.lookup x=some a))->Q () s') (hf:X.fn x=true\/X.env.scope.names.lookup x=some .local:=by first | exact .inl rfl | exact .inr rfl | assumption):wpAny M A (storeName X.env x u) Q E s:=by
 obtain ⟨m,hn,hl⟩:=id I.loc
 have hcls:(X.env.scope.kind==.class || (X.env.scope.kind==.module&&X.env.locals != X.env.globals))=false:=by rw [I.ok.kind];rfl
 have hiσ:i<σ.length:=by rw [I.len];exact (List.getElem?_eq_some_iff.mp hi).1
 have cne:=I.cne
 have tracked:∀ {a:Addr} {h':Heap},(∃ o,s.heap.get? a=some o/\H a=none)->Heap.SameBut a s.heap h'->HOk X.prog X.w H h':=fun {a h'} ha hs b ob e=>by
  obtain ⟨_,_,hfree⟩:=ha
  refine (I.hok b ob e).stay (fun c w' hc q=>(hs.2 c ?_).trans q) (fun _ q=>q) fun _ _ q=>q
  rintro rfl
  rcases hc with rfl | hc
  .rw [hfree] at e;cases e
  .rw [hfree] at hc;cases hc
 rcases hx with hk | hk
 .refine wpAny_storeName_local hk hn (fun h' hn' hs=>?_) hcls
  obtain ⟨oL,_,_,hoL,_⟩:=id hn
  refine h _ ⟨I.ok,I.os,I.bare,⟨fun b o e n hb hx=>?_,fun b o e n hb hx=>?_,I.base.free,fun b o e hx=>?_,I.base.tups,I.base.frzs,I.base.tbls⟩,⟨_,hn',fun j y v' e1 e2 e3=>?_⟩,fun y c e=>?_,I.free,I.freeC,fun p hp=>?_,tracked ⟨oL,hoL,I.free⟩ hs,by simpa using I.len⟩ ⟨_,hs,.inl rfl⟩
  .exact (hs.2 b (Nat.ne_of_lt (Nat.lt_of_lt_of_le (Heap.lt_size e) I.ok.above))).trans (I.base.keep b o e n hb hx)
  .obtain ⟨sl,e1⟩:=I.base.slot b o e n hb hx
   exact ⟨sl,(hs.2 b (Nat.ne_of_lt (Nat.lt_of_lt_of_le (Heap.lt_size e) I.ok.above))).trans e1⟩
  .obtain ⟨o',e1⟩:=I.base.there b o e hx
   exact ⟨o',(hs.2 b (Nat.ne_of_lt (Nat.lt_of_lt_of_le (Heap.lt_size e) I.ok.above))).trans e1⟩
  .by_cases hj:j=i
   .subst hj
    rw [hi] at e1;cases e1
    rw [List.getElem?_set_self hiσ] at e2
    cases e2
    exact ⟨u,r,.inl ⟨hk,by simp⟩⟩
   .rw [List.getElem?_set_ne (Ne.symm hj)] at e2
    obtain ⟨u',r',q⟩:=hl j y v' e1 e2 e3
    refine ⟨u',r',?_⟩
    rcases q with ⟨k,e⟩ | ⟨k,c,e,z⟩
    .refine .inl ⟨k,?_⟩
     have:y≠x:=fun e=>hj (zit hN e1 (e▸hi))
     simp [this,e]
    .exact .inr ⟨k,c,e,z.sameBut hs (cne y c e)⟩
  .obtain ⟨w',z⟩:=I.cell y c e
   exact ⟨w',z.sameBut hs (cne y c e)⟩
  .obtain ⟨e,n,ne,nf,d⟩:=I.pin p hp
   exact ⟨(hs.2 p.1 ne).trans e,n,ne,nf,d⟩
 .have hfn:X.fn x=true:=by
   rcases hf with z | z
   .exact z
   .rw [z] at hk;cases hk
  obtain ⟨c,hc⟩:=I.ok.has x (.inl hk)
  obtain ⟨w',z⟩:=I.cell x c hc
  refine wpAny_storeName_cell I.ok.kind hk hc z (fun h' hc' hs=>?_)
  obtain ⟨oc,hoc,hocd⟩:=id z
  refine h { s with heap:=h' } ⟨I.ok,I.os,I.bare,⟨fun b o e n hb hx=>?_,fun b o e n hb hx=>?_,I.base.free,fun b o e hx=>?_,I.base.tups,I.base.frzs,I.base.tbls⟩,⟨m,hn.sameBut hs (Ne.symm (cne x c hc)),fun j y v' e1 e2 e3=>?_⟩,fun y c' e=>?_,I.free,I.freeC,fun p hp=>?_,tracked ⟨oc,hoc,I.freeC x c hc⟩ hs,by simpa using I.len⟩ ⟨c,hs,.inr hc⟩
  .exact (hs.2 b (Nat.ne_of_lt (Nat.lt_of_lt_of_le (Heap.lt_size e) (I.ok.cab x c hfn hc)))).trans (I.base.keep b o e n hb hx)
  .obtain ⟨sl,e1⟩:=I.base.slot b o e n hb hx
   exact ⟨sl,(hs.2 b (Nat.ne_of_lt (Nat.lt_of_lt_of_le (Heap.lt_size e) (I.ok.cab x c hfn hc)))).trans e1⟩
  .obtain ⟨o',e1⟩:=I.base.there b o e hx
   exact ⟨o',(hs.2 b (Nat.ne_of_lt (Nat.lt_of_lt_of_le (Heap.lt_size e) (I.ok.cab x c hfn hc)))).trans e1⟩
  .by_cases hj:j=i
   .subst hj
    rw [hi] at e1;cases e1
    rw [List.getElem?_set_self hiσ] at e2
    cases e2
    exact ⟨u,r,.inr ⟨.inl hk,c,hc,hc'⟩⟩
   .rw [List.getElem?_set_ne (Ne.symm hj)] at e2
    obtain ⟨u',r',q⟩:=hl j y v' e1 e2 e3
    refine ⟨u',r',?_⟩
    rcases q with q | ⟨k,c',e,z'⟩
    .exact .inl q
    .refine .inr ⟨k,c',e,z'.sameBut hs ?_⟩
     rintro rfl
     exact hj (zit hN e1 (I.ok.inj _ _ _ e hc▸hi))
  .by_cases hcc:c'=c
   .subst hcc;exact ⟨_,hc'⟩
   .obtain ⟨w2,z2⟩:=I.cell y c' e
    exact ⟨w2,z2.sameBut hs hcc⟩
  .obtain ⟨e,n,ne,nf,d⟩:=I.pin p hp
   refine ⟨(hs.2 p.1 ?_).trans e,n,ne,nf,d⟩
   intro q
   rw [q,hoc] at e
   have q':oc=p.2:=Option.some.inj e
   exact d w' (by rw [← q'];exact hocd)
theorem zh8 {M:Model} {A:Around} {E:Value->Shared->Prop} {i:Nat} {x:Str} {v:V} {u:Value} {Q:Unit->Shared->Prop} (I:Inv X pins σ H s) (hN:X.N.Nodup) (hi:X.N[i]?=some x) (hx:Loc X.env.scope x) (r:RelV v u)
  (h:∀ s',Inv X pins (σ.set i (some v)) H s'->Q () s') (hf:X.fn x=true\/X.env.scope.names.lookup x=some .local:=by first | exact .inl rfl | exact .inr rfl | assumption):wpAny M A (storeName X.env x u) Q E s :=
 zfV I hN hi hx r (fun s' I' _=>h s' I') hf
theorem Inv.call' {s':Shared} {ch:List Addr} (I:Inv X pins σ H s) (ho:s'.os=s.os) (u:Un (frs X.stack) ch H H' s.heap s'.heap) (hok:HOk X.prog X.w H' s'.heap) (hg:AllBare s'.gens)
  (hch:∀ b∈ch,(b∈X.ex\/X.s₀.heap.objs.size<=b)/\b≠X.env.locals/\(∀ x c,X.env.cells.lookup x=some c->c≠b)/\∀ p∈X.pn++pins,p.1≠b):Inv X pins σ H' s':=by
 obtain ⟨h',g',d',t',o'⟩:=s'
 have e:o'=s.os:=ho
 subst e
 exact I.call (g':=g') (t':=t') (d':=d') u hok hg hch
end
abbrev XK:=Value->Option Addr->Hp->Prop
abbrev St:=List (Option V)
abbrev VK:=V->Hp->Prop
abbrev TE:=St->Hp->VK->Prop
abbrev TT:=St->Hp->(Bool->Hp->Prop)->Prop
abbrev TA:=St->Hp->(List V->Hp->Prop)->Prop
structure Ends where
 nx:St->Hp->Prop
 rt:VK
 bk:St->Hp->Prop:=fun _ _=>False
 ct:St->Hp->Prop:=fun _ _=>False
abbrev TS:=Ends->St->Hp->Prop
def EP (X:Cx) (pins:List (Addr×Obj)) (σ:St) (Q:VK) (u:Value) (s':Shared):Prop:=∃ v H',Inv X pins σ H' s'/\RelV v u/\Q v H'
def TP (X:Cx) (pins:List (Addr×Obj)) (σ:St) (Q:Bool->Hp->Prop) (b:Bool) (s':Shared):Prop:=∃ H',Inv X pins σ H' s'/\Q b H'
def AP (X:Cx) (pins:List (Addr×Obj)) (σ:St) (Q:List V->Hp->Prop) (us:List Value) (s':Shared):Prop:=∃ vs H',Inv X pins σ H' s'/\Vals vs us/\Q vs H'
def SP (X:Cx) (pins:List (Addr×Obj)) (D:Ends) (f:Flow) (s':Shared):Prop :=
 match f with
 | .next=>∃ σ' H',Inv X pins σ' H' s'/\D.nx σ' H'
 | .brk=>∃ σ' H',Inv X pins σ' H' s'/\D.bk σ' H'
 | .cont=>∃ σ' H',Inv X pins σ' H' s'/\D.ct σ' H'
 | .ret u=>∃ v σ' H',Inv X pins σ' H' s'/\RelV v u/\D.rt v H'
def PE (X:Cx) (e:Expr) (t:TE):Prop :=
 ∀ (pins:List (Addr×Obj)) (s:Shared) (σ:St) (H:Hp) (Q:VK),Inv X pins σ H s->t σ H Q->wpAny (model X.prog X.w) X.A (eval e X.env) (EP X pins σ Q) X.xe s
def PT (X:Cx) (e:Expr) (t:TT):Prop :=
 ∀ (pins:List (Addr×Obj)) (s:Shared) (σ:St) (H:Hp) (Q:Bool->Hp->Prop),Inv X pins σ H s->t σ H Q->wpAny (model X.prog X.w) X.A (isTrue e X.env (eval e X.env)) (TP X pins σ Q) X.xe s
def PW (X:Cx) (e:Expr) (t:TT):Prop :=
 ∀ (whole:Sem Value) (pins:List (Addr×Obj)) (s:Shared) (σ:St) (H:Hp) (Q:Bool->Hp->Prop),Inv X pins σ H s->t σ H Q->wpAny (model X.prog X.w) X.A (isTrue e X.env whole) (TP X pins σ Q) X.xe s
theorem PW.pt {X:Cx} {e:Expr} {t:TT} (h:PW X e t):PT X e t:=h _
def PA (X:Cx) (es:List Expr) (t:TA):Prop :=
 ∀ (pos:Pos) (pins:List (Addr×Obj)) (s:Shared) (σ:St) (H:Hp) (Q:List V->Hp->Prop),Inv X pins σ H s->t σ H Q->wpAny (model X.prog X.w) X.A (spliced (backTo pos (starEach es X.env))) (AP X pins σ Q) X.xe s
def PS (X:Cx) (st:Stmt) (t:TS):Prop :=
 ∀ (pins:List (Addr×Obj)) (s:Shared) (σ:St) (H:Hp) (D:Ends),Inv X pins σ H s->t D σ H->wpAny (model X.prog X.w) X.A (exec st X.env) (SP X pins D) X.xe s
def PSs (X:Cx) (st:List Stmt) (t:TS):Prop :=
 ∀ (pins:List (Addr×Obj)) (s:Shared) (σ:St) (H:Hp) (D:Ends),Inv X pins σ H s->t D σ H->wpAny (model X.prog X.w) X.A (execs st X.env) (SP X pins D) X.xe s
theorem thn {α:Type} {t:Sem α} {Q Q':α->Shared->Prop} {M:Model} {A:Around} {E:Value->Shared->Prop} {s:Shared} (h:wpAny M A t Q E s) (hQ:∀ a s,Q a s->Q' a s):wpAny M A t Q' E s:=wpAny_mono h hQ fun _ _ x=>x
end L2
namespace L2
open PySem PySem.Spec PyProof.Rows
section
variable {X : Cx}
theorem bin {a b:Expr} {ta tb:TE} (ha:PE X a ta) (hb:PE X b tb) {pins:List (Addr×Obj)} {s:Shared} {σ:St} {H:Hp} {R:V->V->Hp->Prop} (I:Inv X pins σ H s) (h:ta σ H fun x H1=>tb σ H1 fun y H2=>R x y H2)
  {α:Type} {Q:α->Shared->Prop} {f:Value->Value->Sem α}
  (hf:∀ v u s2 x y H2,Inv X pins σ H2 s2->RelV x v->RelV y u->R x y H2->wpAny (model X.prog X.w) X.A (f v u) Q X.xe s2) :
  wpAny (model X.prog X.w) X.A (eval a X.env) (fun v s₁=>wpAny (model X.prog X.w) X.A (eval b X.env) (fun u s₂=>wpAny (model X.prog X.w) X.A (f v u) Q X.xe s₂) X.xe s₁) X.xe s:=by
 refine thn (ha pins s σ H _ I h) fun v s1 ⟨x,H1,I1,r1,q1⟩=>?_
 refine thn (hb pins s1 σ H1 _ I1 q1) fun u s2 ⟨y,H2,I2,r2,q2⟩=>?_
 exact hf v u s2 x y H2 I2 r1 r2 q2
def tVar (i:Nat):TE:=fun σ H Q=>∃ v,σ[i]?=some (some v)/\Q v H
def tC (v:V):TE:=fun _ H Q=>Q v H
theorem zpW {i:Nat} {x:Str} {pos:Pos} (hN:X.N[i]?=some x) (hv:Vis X.env.scope x) (hd:(x==("__debug__" : Str))=false:=by decide) (hcd:(x==("__classdict__" : Str))=false:=by decide):PE X (.Name x pos) (tVar i):=by
 intro pins s σ H Q I h
 obtain ⟨v,e,h⟩:=h
 obtain ⟨m,hn,hl⟩:=I.loc
 obtain ⟨u,r,l⟩:=hl i x v hN e hv
 have fin:EP X pins σ Q u s:=⟨v,H,I,r,h⟩
 rcases l with ⟨hk,hm⟩ | ⟨hk,c,hc,hcell⟩
 .exact wpAny_Name (wpAny_loadName_local I.ok.kind hk hn hm fin) hd
 .rcases hk with hk | hk
  .exact wpAny_Name (wpAny_loadName_cell I.ok.kind hk hc hcell fin) hd
  .exact wpAny_Name (wpAny_loadName_free I.ok.kind hk hc hcell fin hcd) hd
theorem zp2 {i j pos}:PE X (.Constant (.int i) j pos) (tC (.int i)):=fun _ _ _ H _ I h=>wpAny_Constant_int ⟨.int i,H,I.tok _,⟨_,rfl⟩,h⟩
theorem pe_bl {b j pos}:PE X (.Constant (.bool b) j pos) (tC (.bl b)):=fun _ _ _ H _ I h=>Constant_bool ⟨.bl b,H,I,rfl,h⟩
theorem zp0 {j pos}:PE X (.Constant .none j pos) (tC .non):=fun _ _ _ H _ I h=>Constant_none ⟨.non,H,I,rfl,h⟩
theorem znc {x j pos}:PE X (.Constant (.str x) j pos) (tC (.str x)):=fun _ _ _ H _ I h=>Calls.Constant_str ⟨.str x,H,I.tok _,⟨_,rfl⟩,h⟩
def Gl (X:Cx) (x:Str):Prop:=X.env.kindOf x=some .globalImplicit
theorem zfB {E:Value->Shared->Prop} {pins:List (Addr×Obj)} {s:Shared} {σ:St} {H:Hp} {x:Str} {u:Value} {pos:Pos} {Q:Value->Shared->Prop} (I:Inv X pins σ H s) (hg:Gl X x) (hm:X.mg x=some u) (h:Q u s)
  (hd:(x==("__debug__" : Str))=false:=by decide):wpAny (model X.prog X.w) X.A (eval (.Name x pos) X.env) Q E s :=
 Calls.Name_function_global I.ok.kind hg (Calls.loadGlobal_global (by rw [I.ok.glob];exact I.mod.glob.keeps I.bk) hm h) hd
theorem zd0 {E:Value->Shared->Prop} {pins:List (Addr×Obj)} {s:Shared} {σ:St} {H:Hp} {x:Str} {u:Value} {pos:Pos} {Q:Value->Shared->Prop} (I:Inv X pins σ H s) (hg:Gl X x) (hm:X.mg x=none) (hv:bootBuiltins x=some u) (h:Q u s)
  (hn:x ≠ "__name__" := by decide) (hd:(x==("__debug__" : Str))=false:=by decide):wpAny (model X.prog X.w) X.A (eval (.Name x pos) X.env) Q E s:=by
 obtain ⟨mb,h1,h2⟩:=I.mod.blt
 exact Calls.Name_function_global I.ok.kind hg (Calls.loadGlobal_builtin (by rw [I.ok.glob];exact I.mod.glob.keeps I.bk) hm (by rw [I.ok.blt];exact h1.keeps I.bk) ((h2 x hn).trans hv) h) hd
theorem zn7 {x:Str} {v:V} {u:Value} {pos:Pos} (hg:Gl X x) (hm:X.mg x=none) (hv:bootBuiltins x=some u) (r:RelV v u) (hn:x ≠ "__name__" := by decide) (hd:(x==("__debug__" : Str))=false:=by decide):PE X (.Name x pos) (tC v) :=
 fun _ _ _ H _ I h=>zd0 I hg hm hv ⟨v,H,I,r,h⟩ hn hd
def t2I (ta tb:TE) (k:Int->Int->Hp->Prop):St->Hp->Prop:=fun σ H=>ta σ H fun x H1=>tb σ H1 fun y H2=>∃ i j,x=.int i/\y=.int j/\k i j H2
def tAdd (ta tb:TE):TE:=fun σ H Q=>t2I ta tb (fun i j H2=>Q (.int (i+j)) H2) σ H
def tSub (ta tb:TE):TE:=fun σ H Q=>t2I ta tb (fun i j H2=>Q (.int (i - j)) H2) σ H
def tMul (ta tb:TE):TE:=fun σ H Q=>t2I ta tb (fun i j H2=>(-(2 ^ 64)<i/\i<2 ^ 64)/\Q (.int (i * j)) H2) σ H
variable {a b : Expr} {ta tb : TE} {pos : Pos}
def PC (X:Cx) (op:CmpOp) (a b:Expr) (t:TE):Prop :=
 ∀ (pins:List (Addr×Obj)) (s:Shared) (σ:St) (H:Hp) (Q:VK),Inv X pins σ H s->t σ H Q ->
  wpAny (model X.prog X.w) X.A (eval a X.env) (fun v s₁=>wpAny (model X.prog X.w) X.A (eval b X.env) (fun u s₂=>wpAny (model X.prog X.w) X.A (compareOp op v u) (EP X pins σ Q) X.xe s₂) X.xe s₁) X.xe s
def tCmp (p:Int->Int->Bool) (ta tb:TE):TE:=fun σ H Q=>t2I ta tb (fun i j H2=>Q (.bl (p i j)) H2) σ H
abbrev tLt:TE->TE->TE:=tCmp fun i j=>decide (i<j)
abbrev tLe:TE->TE->TE:=tCmp fun i j=>decide (i<=j)
abbrev tGt:TE->TE->TE:=tCmp fun i j=>decide (j<i)
abbrev tGe:TE->TE->TE:=tCmp fun i j=>decide (j<=i)
abbrev tEqI:TE->TE->TE:=tCmp fun i j=>decide (i=j)
abbrev tNeI:TE->TE->TE:=tCmp fun i j=>!decide (i=j)
def tIsN (ta:TE):TE:=fun σ H Q=>ta σ H fun x H1=>Q (.bl (decide (x=.non))) H1
def tNotN (ta:TE):TE:=fun σ H Q=>ta σ H fun x H1=>Q (.bl (!decide (x=.non))) H1
def tB (t:TE):TT:=fun σ H Q=>t σ H fun x H1=>∃ c,x=.bl c/\Q c H1
variable {tA tB' : TT} {rest : List Expr}
def tAnd (t u:TT):TT:=fun σ H Q=>t σ H fun c H1=>if c=true then u σ H1 Q else Q false H1
def tOr (t u:TT):TT:=fun σ H Q=>t σ H fun c H1=>if c=true then Q true H1 else u σ H1 Q
def tNot (t:TT):TT:=fun σ H Q=>t σ H fun c H1=>Q (!c) H1
theorem znO (ha:PT X a tA):PW X (.BoolOp .And [a] pos) tA:=by
 intro wh pins s σ H Q I h
 refine isTrue_and (thn (ha pins s σ H Q I h) fun c s1 e=>?_)
 cases c with
 |true=>exact isTrue_and_nil e
 |false=>exact e
theorem zpK (ha:PT X a tA):PW X (.BoolOp .Or [a] pos) tA:=by
 intro wh pins s σ H Q I h
 refine isTrue_or (thn (ha pins s σ H Q I h) fun c s1 e=>?_)
 cases c with
 |false=>exact isTrue_or_nil e
 |true=>exact e
theorem zm9 (ha:PT X a tA) (hb:PW X (.BoolOp .And (b::rest) pos) tB'):PW X (.BoolOp .And (a::b::rest) pos) (tAnd tA tB'):=by
 intro wh pins s σ H Q I h
 refine isTrue_and (thn (ha pins s σ H _ I h) fun c s1 ⟨H1,I1,q1⟩=>?_)
 cases c with
 |true=>exact hb wh pins s1 σ H1 Q I1 q1
 |false=>exact ⟨H1,I1,q1⟩
theorem zpL (ha:PT X a tA) (hb:PW X (.BoolOp .Or (b::rest) pos) tB'):PW X (.BoolOp .Or (a::b::rest) pos) (tOr tA tB'):=by
 intro wh pins s σ H Q I h
 refine isTrue_or (thn (ha pins s σ H _ I h) fun c s1 ⟨H1,I1,q1⟩=>?_)
 cases c with
 |true=>exact ⟨H1,I1,q1⟩
 |false=>exact hb wh pins s1 σ H1 Q I1 q1
theorem zpM (ha:PT X a tA):PT X (.UnaryOp .Not a pos) (tNot tA):=by
 intro pins s σ H Q I h
 exact isTrue_not (ha pins s σ H (fun c H1=>Q (!c) H1) I h)
def zpq (ta tb:TE):TE:=fun σ H Q=>ta σ H fun x H1=>∃ c,x=.bl c/\if c=true then tb σ H1 Q else Q (.bl false) H1
def tOrV (ta tb:TE):TE:=fun σ H Q=>ta σ H fun x H1=>∃ c,x=.bl c/\if c=true then Q (.bl true) H1 else tb σ H1 Q
def tNotV (ta:TE):TE:=fun σ H Q=>ta σ H fun x H1=>∃ c,x=.bl c/\Q (.bl (!c)) H1
theorem znd {op} {t:TE} (h:PE X a t):PE X (.BoolOp op [a] pos) t:=fun pins s σ H Q I hw=>BoolOp_one (h pins s σ H Q I hw)
theorem zne (ha:PE X a ta) (hb:PE X (.BoolOp .And (b::rest) pos) tb):PE X (.BoolOp .And (a::b::rest) pos) (zpq ta tb):=by
 intro pins s σ H Q I h
 refine BoolOp_and (thn (ha pins s σ H _ I h) fun v s1 ⟨x,H1,I1,r1,q1⟩=>?_)
 obtain ⟨c,rfl,q1⟩:=q1
 cases r1
 refine wpAny_truthy_bool ?_
 cases c with
 |true=>exact hb pins s1 σ H1 Q I1 q1
 |false=>exact ⟨.bl false,H1,I1,rfl,q1⟩
theorem zpY (ha:PE X a ta) (hb:PE X (.BoolOp .Or (b::rest) pos) tb):PE X (.BoolOp .Or (a::b::rest) pos) (tOrV ta tb):=by
 intro pins s σ H Q I h
 refine BoolOp_or (thn (ha pins s σ H _ I h) fun v s1 ⟨x,H1,I1,r1,q1⟩=>?_)
 obtain ⟨c,rfl,q1⟩:=q1
 cases r1
 refine wpAny_truthy_bool ?_
 cases c with
 |false=>exact hb pins s1 σ H1 Q I1 q1
 |true=>exact ⟨.bl true,H1,I1,rfl,q1⟩
theorem zpZ (ha:PE X a ta):PE X (.UnaryOp .Not a pos) (tNotV ta):=by
 intro pins s σ H Q I h
 refine UnaryOp_ (thn (ha pins s σ H _ I h) fun v s1 ⟨x,H1,I1,r1,q1⟩=>?_)
 obtain ⟨c,rfl,q1⟩:=q1
 cases r1
 exact not_of (wpAny_truthy_bool ⟨.bl (!c),H1,I1,rfl,q1⟩)
def tIf (t:TT) (ta tb:TE):TE:=fun σ H Q=>t σ H fun c H1=>if c=true then ta σ H1 Q else tb σ H1 Q
theorem zl0 {c:Expr} (hc:PT X c tA) (ha:PE X a ta) (hb:PE X b tb):PE X (.IfExp c a b pos) (tIf tA ta tb):=by
 intro pins s σ H Q I h
 refine wpAny_IfExp (thn (hc pins s σ H _ I h) fun d s1 ⟨H1,I1,q1⟩=>?_)
 cases d with
 |true=>exact ha pins s1 σ H1 Q I1 q1
 |false=>exact hb pins s1 σ H1 Q I1 q1
end
end L2
namespace L2
open PySem PySem.Spec PyProof.Rows
def SqL (K:PySem.W.Frag) (H:Hp) (a:Addr) (xs:List V):Prop :=
 Rd H a (.lst xs) \/
  ∃ (o:Obj) (its:Array Value) (n:Nat),K.lookup a=some o/\o.cls=.type "list" /\ o.dict=none/\o.data=.seq its n/\its.size<=sizeLine/\Vals xs its.toList
def SqT (K:PySem.W.Frag) (H:Hp) (a:Addr) (xs:List V):Prop :=
 Rd H a (.tup xs) \/
  ∃ (o:Obj) (its:Array Value) (n:Nat),K.lookup a=some o/\o.cls=.type "tuple" /\ o.data=.seq its n/\its.size<=sizeLine/\Vals xs its.toList
def absV:Value->Option V
 | .none=>some .non
 | .bool b=>some (.bl b)
 | .int i _=>some (.int i)
 | .str x _=>some (.str x)
 | .bytes b _=>some (.byt b)
 | .float b _=>some (.flt b)
 | .ref a=>some (.ref a)
 | .type n=>some (.ty n)
 |_=>none
theorem RelV.abs {x:V} {u:Value} (r:RelV x u):absV u=some x:=by
 cases x with
 |non=>cases r;rfl
 |bl _=>cases r;rfl
 |int _=>obtain ⟨t,rfl⟩:=r;rfl
 |str _=>obtain ⟨t,rfl⟩:=r;rfl
 |byt _=>obtain ⟨t,rfl⟩:=r;rfl
 |flt _=>obtain ⟨t,rfl⟩:=r;rfl
 |ref _=>cases r;rfl
 |ty _=>cases r;rfl
theorem RelV.inj {x y:V} {u:Value} (r:RelV x u) (q:RelV y u):x=y:=Option.some.inj (r.abs.symm.trans q.abs)
theorem Vals.inj:∀ {xs ys:List V} {us:List Value},Vals xs us->Vals ys us->xs=ys
 |_,_,_,.nil,.nil=>rfl
 |_,_,_,.cons r t,.cons r' t'=>by rw [r.inj r',Vals.inj t t']
section
variable {X : Cx} {pins : List (Addr × Obj)} {σ : St} {H : Hp} {s : Shared} {a : Addr} {xs ys : List V}
theorem SqL.of {K:PySem.W.Frag} (h:H a=some (.lst xs)):SqL K H a xs:=.inl (.inl h)
theorem SqT.of {K:PySem.W.Frag} (h:H a=some (.tup xs)):SqT K H a xs:=.inl (.inl h)
theorem Inv.list (I:Inv X pins σ H s) (h:SqL X.K H a xs):∃ its:List Value,Vals xs its/\PlainL s.heap a its.toArray/\xs.length<=sizeLine:=by
 rcases h with h | ⟨o,its,n,hk,hc,hd,hs,hz,r⟩
 .obtain ⟨z,its,n,r,e⟩:=h.ok I.hok
  exact ⟨its,r,⟨_,n,e,rfl,rfl,rfl⟩,z⟩
 .refine ⟨its.toList,r,⟨o,n,I.kIn a o hk,hc,hd,by simpa using hs⟩,?_⟩
  have e:=r.length
  simp only [Array.length_toList] at e
  omega
theorem Inv.tuple (I:Inv X pins σ H s) (h:SqT X.K H a xs):∃ its:List Value,Vals xs its/\IsTup s.heap a its.toArray/\xs.length<=sizeLine:=by
 rcases h with h | ⟨o,its,n,hk,hc,hs,hz,r⟩
 .obtain ⟨z,its,r,p⟩:=h.ok I.hok
  exact ⟨its,r,p,z⟩
 .refine ⟨its.toList,r,⟨o,I.kIn a o hk,hc,n,by simpa using hs⟩,?_⟩
  have e:=r.length
  simp only [Array.length_toList] at e
  omega
theorem Inv.list_inj (I:Inv X pins σ H s) (h:SqL X.K H a xs) (h':SqL X.K H a ys):xs=ys:=by
 obtain ⟨its,r,⟨o,n,e,_,_,d⟩,_⟩:=I.list h
 obtain ⟨its',r',⟨o',n',e',_,_,d'⟩,_⟩:=I.list h'
 rw [e] at e';cases e'
 rw [d] at d'
 injection d' with d1 _
 have:its=its':=by simpa using congrArg Array.toList d1
 subst this
 exact r.inj r'
theorem Inv.tuple_inj (I:Inv X pins σ H s) (h:SqT X.K H a xs) (h':SqT X.K H a ys):xs=ys:=by
 obtain ⟨its,r,⟨o,e,_,n,d⟩,_⟩:=I.tuple h
 obtain ⟨its',r',⟨o',e',_,n',d'⟩,_⟩:=I.tuple h'
 rw [e] at e';cases e'
 rw [d] at d'
 injection d' with d1 _
 have:its=its':=by simpa using congrArg Array.toList d1
 subst this
 exact r.inj r'
end
abbrev Cx.wish (X:Cx) (E:Value->Shared->Prop):Cx:={ X with xe:=E }
abbrev Cx.nox (X:Cx):Cx:=X.wish fun _ _=>False
theorem Cx.Ok.wish {X:Cx} (ok:X.Ok) (E:Value->Shared->Prop):(X.wish E).Ok :=
 ⟨ok.mod,ok.kind,ok.glob,ok.blt,ok.above,ok.inj,ok.has,ok.cab,ok.hd,ok.frames,ok.stk,ok.exf,ok.bs,ok.bsz,ok.noex,ok.exfs,ok.funs,ok.frf⟩
theorem Cx.Ok.unwish {X:Cx} {E:Value->Shared->Prop} (ok:(X.wish E).Ok):X.Ok :=
 ⟨ok.mod,ok.kind,ok.glob,ok.blt,ok.above,ok.inj,ok.has,ok.cab,ok.hd,ok.frames,ok.stk,ok.exf,ok.bs,ok.bsz,ok.noex,ok.exfs,ok.funs,ok.frf⟩
section
variable {X : Cx} {pins : List (Addr × Obj)} {σ : St} {H : Hp} {s : Shared} {E : Value → Shared → Prop}
theorem Inv.wish (I:Inv X pins σ H s) (E:Value->Shared->Prop):Inv (X.wish E) pins σ H s:=⟨I.ok.wish E,I.os,I.bare,I.base,I.loc,I.cell,I.free,I.freeC,I.pin,I.hok,I.len⟩
theorem Inv.unwish (I:Inv (X.wish E) pins σ H s):Inv X pins σ H s:=⟨I.ok.unwish,I.os,I.bare,I.base,I.loc,I.cell,I.free,I.freeC,I.pin,I.hok,I.len⟩
theorem SP.unwish {D:Ends} {f:Flow} {s':Shared} (h:SP (X.wish E) pins D f s'):SP X pins D f s':=by
 cases f with
 |next=>obtain ⟨σ',H',I,q⟩:=h;exact ⟨σ',H',I.unwish,q⟩
 |brk=>obtain ⟨σ',H',I,q⟩:=h;exact ⟨σ',H',I.unwish,q⟩
 |cont=>obtain ⟨σ',H',I,q⟩:=h;exact ⟨σ',H',I.unwish,q⟩
 |ret u=>obtain ⟨v,σ',H',I,r,q⟩:=h;exact ⟨v,σ',H',I.unwish,r,q⟩
theorem PSs.nox {st:List Stmt} {t:TS} (h:PSs X.nox st t):PSs X st t:=fun pins s σ H D I hw =>
 wpAny_mono (h pins s σ H D (I.wish _) hw) (fun _ _ q=>q.unwish) fun _ _ z=>False.elim z
end
section
variable {X : Cx} {st : Stmt} {rest : List Stmt} {t u : TS} {e : Expr} {te : TE} {pos : Pos}
def zpm:TS:=fun D σ H=>D.nx σ H
def tSeq (t u:TS):TS:=fun D σ H=>t { D with nx:=u D } σ H
theorem znS:PSs X [] zpm:=fun _ _ σ H _ I h=>wpAny_execs_nil ⟨σ,H,I,h⟩
theorem zlN (h1:PS X st t) (h2:PSs X rest u):PSs X (st::rest) (tSeq t u):=by
 intro pins s σ H D I h
 refine wpAny_execs_cons (thn (h1 pins s σ H { D with nx:=u D } I h) fun f s1 q=>?_)
 cases f with
 |next =>
  obtain ⟨σ',H',I',q⟩:=q
  exact h2 pins s1 σ' H' D I' q
 |ret v=>exact q
 |brk=>exact q
 |cont=>exact q
def zpp:TS:=fun D σ H=>D.bk σ H
def tCont:TS:=fun D σ H=>D.ct σ H
theorem znU:PS X (.Pass pos) zpm:=fun _ _ σ H _ I h=>wpAny_Pass ⟨σ,H,I,h⟩
theorem zlR:PS X (.Break pos) zpp:=fun _ _ σ H _ I h=>wpAny_Break ⟨σ,H,I,h⟩
theorem zhx:PS X (.Continue pos) tCont:=fun _ _ σ H _ I h=>wpAny_Continue ⟨σ,H,I,h⟩
theorem Inv.quiet {pins:List (Addr×Obj)} {σ:St} {H:Hp} {s:Shared} (I:Inv X pins σ H s):interactive X.env=false:=by simp [interactive,I.ok.kind]
def tDrop (te:TE):TS:=fun D σ H=>te σ H fun _ H1=>D.nx σ H1
theorem znV (he:PE X e te) (hs:swapsWith e none pos.line X.env=pure false:=by rfl):PS X (.Expr e pos) (tDrop te):=by
 intro pins s σ H D I h
 exact wpAny_Expr_any (thn (he pins s σ H _ I h) fun v s1 ⟨x,H1,I1,r1,q1⟩=>⟨σ,H1,I1,q1⟩) I.quiet hs
def tRet (te:TE):TS:=fun D σ H=>te σ H D.rt
theorem zpO (he:PE X e te):PS X (.Return (some e) pos) (tRet te):=by
 intro pins s σ H D I h
 exact wpAny_Return_some (thn (he pins s σ H _ I h) fun v s1 ⟨x,H1,I1,r1,q1⟩=>⟨x,σ,H1,I1,r1,q1⟩)
def tRetN:TS:=fun D _ H=>D.rt .non H
theorem znT:PS X (.Return none pos) tRetN:=fun _ _ σ H _ I h=>wpAny_Return_none ⟨.non,σ,H,I,rfl,h⟩
def tIfS (c:TT) (t u:TS):TS:=fun D σ H=>c σ H fun b H1=>if b=true then t D σ H1 else u D σ H1
theorem ps_if {c:Expr} {a b:List Stmt} {tc:TT} (hc:PT X c tc) (ha:PSs X a t) (hb:PSs X b u):PS X (.If c a b pos) (tIfS tc t u):=by
 intro pins s σ H D I h
 refine wpAny_If (thn (hc pins s σ H _ I h) fun d s1 ⟨H1,I1,q1⟩=>?_)
 cases d with
 |true=>exact ha pins s1 σ H1 D I1 q1
 |false=>exact hb pins s1 σ H1 D I1 q1
def zpn:TS:=fun _ _ _=>False
theorem zlQ:PS X st zpn:=fun _ _ _ _ _ _ h=>h.elim
end
abbrev TG:=V->St->Hp->(St->Hp->Prop)->Prop
abbrev TGs:=List V->St->Hp->(St->Hp->Prop)->Prop
def PG (X:Cx) (target:Expr) (t:TG):Prop :=
 ∀ (pins:List (Addr×Obj)) (s:Shared) (σ:St) (H:Hp) (v:V) (u:Value) (Q:St->Hp->Prop),Inv X pins σ H s->RelV v u->t v σ H Q ->
  wpAny (model X.prog X.w) X.A (assign target X.env u) (fun _ s'=>∃ σ' H',Inv X pins σ' H' s'/\Q σ' H') X.xe s
def PGs (X:Cx) (ts:List Expr) (t:TGs):Prop :=
 ∀ (pins:List (Addr×Obj)) (s:Shared) (σ:St) (H:Hp) (vs:List V) (us:List Value) (Q:St->Hp->Prop),Inv X pins σ H s->Vals vs us->t vs σ H Q ->
  wpAny (model X.prog X.w) X.A (assignInOrder ((assignEach ts X.env).map (·.2)) us) (fun _ s'=>∃ σ' H',Inv X pins σ' H' s'/\Q σ' H') X.xe s
abbrev TSet:=V->V->V->Hp->(Hp->Prop)->Prop
def PSet (X:Cx) (t:TSet):Prop :=
 ∀ (pins:List (Addr×Obj)) (s:Shared) (σ:St) (H:Hp) (o i v:V) (ov iv u:Value) (Q:Hp->Prop),Inv X pins σ H s->RelV o ov->RelV i iv->RelV v u->t o i v H Q ->
  wpAny (model X.prog X.w) X.A (setItem ov iv u) (fun _ s'=>∃ H',Inv X pins σ H' s'/\Q H') X.xe s
abbrev TIp:=V->V->Hp->VK->Prop
def PIp (X:Cx) (op:Operator) (t:TIp):Prop :=
 ∀ (pins:List (Addr×Obj)) (s:Shared) (σ:St) (H:Hp) (x y:V) (v u:Value) (Q:VK),Inv X pins σ H s->RelV x v->RelV y u->t x y H Q ->
  wpAny (model X.prog X.w) X.A (inplaceOp op v u) (EP X pins σ Q) X.xe s
section
variable {X : Cx} {pos : Pos}
def zmF (i:Nat):TG:=fun v σ H Q=>Q (σ.set i (some v)) H
theorem zn2 {i:Nat} {x:Str} (hN:X.N.Nodup) (hi:X.N[i]?=some x) (hx:Loc X.env.scope x) (hf:X.fn x=true\/X.env.scope.names.lookup x=some .local:=by first | exact .inl rfl | exact .inr rfl | assumption):PG X (.Name x pos) (zmF i):=by
 intro pins s σ H v u Q I r h
 exact wpAny_assign_Name (zh8 I hN hi hx r (fun s' I'=>⟨_,H,I',h⟩) hf)
def gNil:TGs:=fun vs σ H Q=>vs=[]/\Q σ H
def gCons (t:TG) (u:TGs):TGs:=fun vs σ H Q=>∃ v r,vs=v::r/\t v σ H fun σ' H'=>u r σ' H' Q
theorem zn1:PGs X [] gNil:=by
 intro pins s σ H vs us Q I r h
 obtain ⟨e,h⟩:=h
 subst e
 cases r
 exact assignInOrder_nil ⟨σ,H,I,h⟩
theorem zlX {e:Expr} {es:List Expr} {t:TG} {u:TGs} (h1:PG X e t) (h2:PGs X es u)
  (hs:(assignEach (e::es) X.env).map (·.2)=assign e X.env::(assignEach es X.env).map (·.2):=by rfl):PGs X (e::es) (gCons t u):=by
 intro pins s σ H vs us Q I r h
 obtain ⟨v,vr,e1,h⟩:=h
 subst e1
 cases r with
 |cons r rr =>
  rw [hs]
  refine assignInOrder_cons (thn (h1 pins s σ H _ _ _ I r h) fun _ s1 ⟨σ1,H1,I1,q1⟩=>?_)
  exact h2 pins s1 σ1 H1 _ _ Q I1 rr q1
def gTup (K:PySem.W.Frag) (n:Nat) (t:TGs):TG:=fun v σ H Q=>∃ a xs,v=.ref a/\SqT K H a xs/\xs.length=n/\t xs σ H Q
theorem zpV {es:List Expr} {k:Nat} {t:TGs} {n:Nat} (hc:X.calm=true) (h:PGs X es t)
  (hn:(assignEach es X.env).length=n:=by rfl) (hst:(assignEach es X.env).findIdx? (·.1)=none:=by rfl):PG X (.Tuple es k pos) (gTup X.K n t):=by
 intro pins s σ H v u Q I r hw
 obtain ⟨a,xs,e1,hq,hl,hw⟩:=hw
 subst e1
 cases r
 obtain ⟨its,rv,ht,hz⟩:=I.tuple hq
 refine assign_Tuple_tuple (I.ok.hd hc) ht (by simp [hn,← hl,rv.length]) hst fun h' hx=>?_
 have I1:Inv X pins σ H { s with heap:=h' }:=I.kept (t':=s.toks) fun b o e=>hx b o (Nat.ne_of_lt (Heap.lt_size e)) e
 exact h pins _ σ H xs _ Q I1 (by simpa using rv) hw
def gSub (to ti:TE) (t:TSet):TG:=fun v σ H Q=>to σ H fun o H1=>ti σ H1 fun i H2=>t o i v H2 fun H3=>Q σ H3
def tAsg (te:TE) (g:TG):TS:=fun D σ H=>te σ H fun x H1=>g x σ H1 D.nx
theorem zpR {tg e:Expr} {te:TE} {g:TG} (he:PE X e te) (hg:PG X tg g) (hs:swapsWithSole [tg] e pos.line X.env=pure false:=by rfl) (hw:swappedStores [tg] e X.env=pure none:=by rfl)
  (h1:(assignEach [tg] X.env).map (·.2)=[assign tg X.env]:=by rfl):PS X (.Assign [tg] e pos) (tAsg te g):=by
 intro pins s σ H D I h
 refine wpAny_Assign_stores (thn (he pins s σ H _ I h) fun v s1 ⟨x,H1,I1,r1,q1⟩=>?_) hs hw
 rw [h1]
 exact thn (hg pins s1 σ H1 x v _ I1 r1 q1) fun _ s2 q=>q
theorem zna {i:Nat} {x:Str} {e:Expr} {te:TE} {pos':Pos} (hN:X.N.Nodup) (hi:X.N[i]?=some x) (hx:Loc X.env.scope x) (he:PE X e te) (hs:swapsWith e (some (.Name x pos')) pos.line X.env=pure false:=by rfl) (hf:X.fn x=true\/X.env.scope.names.lookup x=some .local:=by first | exact .inl rfl | exact .inr rfl | assumption) :
  PS X (.Assign [.Name x pos'] e pos) (tAsg te (zmF i)):=by
 intro pins s σ H D I h
 refine wpAny_Assign_Name (thn (he pins s σ H _ I h) fun v s1 ⟨y,H1,I1,r1,q1⟩=>?_) hs
 exact zh8 I1 hN hi hx r1 (fun s2 I2=>⟨_,H1,I2,q1⟩) hf
def tPar (i j:Nat) (ta:TA):TS:=fun D σ H=>ta σ H fun vs H1=>∃ v w,vs=[v,w]/\D.nx ((σ.set i (some v)).set j (some w)) H1
def tAug (i:Nat) (te:TE) (ti:TIp):TS:=fun D σ H=>∃ x,σ[i]?=some (some x)/\te σ H fun y H1=>ti x y H1 fun z H2=>D.nx (σ.set i (some z)) H2
def tAugS (to ti te:TE) (tget:V->V->Hp->VK->Prop) (tip:TIp) (tset:TSet):TS:=fun D σ H=>to σ H fun o H1=>ti σ H1 fun i H2=>tget o i H2 fun x H3=>te σ H3 fun y H4=>tip x y H4 fun z H5=>tset o i z H5 fun H6=>D.nx σ H6
def PGet (X:Cx) (t:V->V->Hp->VK->Prop):Prop :=
 ∀ (pins:List (Addr×Obj)) (s:Shared) (σ:St) (H:Hp) (o i:V) (ov iv:Value) (Q:VK),Inv X pins σ H s->RelV o ov->RelV i iv->t o i H Q ->
  wpAny (model X.prog X.w) X.A (getItem ov iv) (EP X pins σ Q) X.xe s
def ipI (f:Int->Int->Int):TIp:=fun x y H Q=>∃ i j,x=.int i/\y=.int j/\Q (.int (f i j)) H
end
section
variable {X : Cx} {pos : Pos}
def zpl (c:TT) (tb:TS):TS:=fun D σ H=>∃ W:Nat->St->Hp->Prop,(∃ m,W m σ H)/\∀ m σ H,W m σ H ->
 c σ H fun b H1=>if b=true then ∃ N:St->Hp->Prop,(∀ σ' H',N σ' H'->∃ m',m' < m/\W m' σ' H')/\tb { D with nx:=N,ct:=N,bk:=D.nx } σ H1 else D.nx σ H1
theorem zlO {c:Expr} {body:List Stmt} {tc:TT} {tb:TS} (hp:PassesOwn (model X.prog X.w) X.A X.env X.xe) (hc:PT X c tc) (hb:PSs X body tb):PS X (.While c body [] pos) (zpl tc tb):=by
 intro pins s σ H D I h
 obtain ⟨W,⟨m0,w0⟩,turn⟩:=h
 refine wpAny_While (codeAny_whileLoop (fun n s'=>∃ σ' H',Inv X pins σ' H' s'/\W n σ' H') ?_ m0 ⟨σ,H,I,w0⟩)
 rintro n s1 ⟨σ1,H1,I1,w1⟩
 refine wpAny_passesOwn hp (thn (hc pins s1 σ1 H1 _ I1 (turn n σ1 H1 w1)) fun b s2 ⟨H2,I2,q2⟩=>?_)
 cases b with
 |true =>
  obtain ⟨N,hN,q2⟩:=q2
  rw [if_pos rfl]
  refine wpAny_passesOwn hp (thn (hb pins s2 σ1 H2 _ I2 q2) fun f s3 q3=>?_)
  cases f with
  |next =>
   obtain ⟨σ3,H3,I3,n3⟩:=q3
   obtain ⟨m',hm,w3⟩:=hN σ3 H3 n3
   exact ⟨m',hm,σ3,H3,I3,w3⟩
  |cont =>
   obtain ⟨σ3,H3,I3,n3⟩:=q3
   obtain ⟨m',hm,w3⟩:=hN σ3 H3 n3
   exact ⟨m',hm,σ3,H3,I3,w3⟩
  |brk=>exact q3
  |ret v=>exact q3
 |false =>
  rw [if_neg zzN]
  exact wpAny_execs_nil ⟨σ1,H2,I2,q2⟩
end
structure It where
 go:Nat->Hp->Prop
 yld:Nat->Hp->V->Hp->Prop
 stop:Nat->Hp->Prop
def FpOk (X:Cx) (pins:List (Addr×Obj)) (H:Hp) (b:Addr):Prop :=
 H b=none/\b≠X.env.locals/\b∉X.fs/\(b∈X.ex\/X.s₀.heap.objs.size<=b)/\(∀ x c,X.env.cells.lookup x=some c->c≠b)/\∀ p∈X.pn++pins,p.1≠b
theorem Inv.fpOk {X:Cx} {pins:List (Addr×Obj)} {σ:St} {H H':Hp} {s:Shared} {b:Addr} (I:Inv X pins σ H s) (hb:s.heap.objs.size<=b) (hn:H' b=none):FpOk X pins H' b:=by
 refine ⟨hn,Nat.ne_of_gt (Nat.lt_of_lt_of_le I.lt hb),I.nofs hb,.inr (Nat.le_trans I.sz hb),fun x c e z=>?_,fun p hp z=>?_⟩
 .obtain ⟨v,q⟩:=I.cell x c e
  exact absurd (Nat.lt_of_lt_of_le q.lt (by rw [z];exact hb)) (Nat.lt_irrefl _)
 .exact absurd (Nat.lt_of_lt_of_le (Heap.lt_size (I.pin p hp).1) (by rw [z];exact hb)) (Nat.lt_irrefl _)
structure Turn (P:Program) (w:World) (K:PySem.W.Frag) (tg:Expr) (J:It) (fp:List Addr) (it:Addr) (tn:Nat->Heap->Prop):Prop where
 mem:it∈fp
 obj:∀ i h,tn i h->∀ b∈fp,∃ o,h.get? b=some o/\∀ v,o.data≠.cell v
 keep:∀ i h h',tn i h->(∀ b∈fp,∀ o,h.get? b=some o->h'.get? b=some o)->tn i h'
 item:∀ (X:Cx),X.prog=P->X.w=w->X.K=K->X.calm=true->∀ (i:Nat) (pins:List (Addr×Obj)) (s:Shared) (σ:St) (H:Hp) (E:Value->Shared->Prop),Inv X pins σ H s->(∀ b∈fp,FpOk X pins H b)->tn i s.heap->J.go i H ->
  wpAny (model P w) X.A (pyNext (.ref it)) (fun r s1=>∃ u,r=some u /\
   wpAny (model P w) X.A (letOwnedTupleGo tg (.ref it) u) (fun _ s2=>∃ x H',Inv X pins σ H' s2/\RelV x u/\J.yld i H x H'/\tn (i+1) s2.heap/\∀ b∈fp,H' b=none) E s1) E s
 done:∀ (X:Cx),X.prog=P->X.w=w->X.K=K->X.calm=true->∀ (i:Nat) (pins:List (Addr×Obj)) (s:Shared) (σ:St) (H:Hp) (E:Value->Shared->Prop),Inv X pins σ H s->(∀ b∈fp,FpOk X pins H b)->tn i s.heap->J.stop i H ->
  wpAny (model P w) X.A (pyNext (.ref it)) (fun r s1=>r=none/\Inv X pins σ H s1) E s
 self:∀ (A:Around) (i:Nat) (s:Shared) (Q:Value->Shared->Prop) (E:Value->Shared->Prop),tn i s.heap->Q (.ref it) s->wpAny (model P w) A (pyIter (.ref it)) Q E s
abbrev TI:=St->Hp->(It->Hp->Prop)->Prop
def PIE (X:Cx) (pins:List (Addr×Obj)) (σ:St) (tg:Expr) (R:It->Hp->Prop) (itv:Value) (s2:Shared):Prop :=
 ∃ (it:Addr) (fp:List Addr) (tn:Nat->Heap->Prop) (J:It) (H':Hp),itv=.ref it/\Inv X pins σ H' s2/\Turn X.prog X.w X.K tg J fp it tn/\tn 0 s2.heap/\(∀ b∈fp,FpOk X pins H' b)/\R J H'
def PI (X:Cx) (tg iter:Expr) (wi:TI):Prop :=
 ∀ (pins:List (Addr×Obj)) (s:Shared) (σ:St) (H:Hp) (R:It->Hp->Prop),Inv X pins σ H s->wi σ H R ->
  wpAny (model X.prog X.w) X.A (eval iter X.env) (fun v s1=>wpAny (model X.prog X.w) X.A (pyIter v) (PIE X pins σ tg R) X.xe s1) X.xe s
theorem zmE {M:Model} {A:Around} {E:Value->Shared->Prop} {s:Shared} {tg:Expr} {it:Addr} {u:Value} {o:Obj} {n:String} {vs:Array Value} {Q:Unit->Shared->Prop} (ho:s.heap.get? it=some o) (hc:o.cls=.type n) (hd:o.data=.fields vs)
    (hn:["enumerate", "zip", "dict_itemiterator", "dict_reverseitemiterator", "odict_iterator", "itertools.zip_longest", "itertools.pairwise"].contains n=false) (hQ:Q () s):wpAny M A (letOwnedTupleGo tg (.ref it) u) Q E s:=by
  unfold letOwnedTupleGo
  cases tg <;> first
    |exact wpAny_pure hQ
    | (cases u <;> first
        |exact wpAny_pure hQ
        | (refine wpAny_bind (wpAny_load ho ?_)
           rw [hc,hd]
           show wpAny M A (if (["enumerate", "zip", "dict_itemiterator", "dict_reverseitemiterator", "odict_iterator", "itertools.zip_longest", "itertools.pairwise"].contains n&&vs[0]?==some (rawInt _))=true then _ else _) Q E s
           rw [if_neg (by intro h;rw [hn,Bool.false_and] at h;cases h)]
           exact wpAny_pure hQ))
def Itl (K:PySem.W.Frag) (a:Addr):It :=
 ⟨fun i H=>∃ xs x,SqL K H a xs/\xs[i]?=some x,fun i H x H'=>H'=H/\∀ xs,SqL K H a xs->xs[i]?=some x,fun i H=>∃ xs,SqL K H a xs/\xs.length<=i⟩
def Itt (K:PySem.W.Frag) (a:Addr):It :=
 ⟨fun i H=>∃ xs x,SqT K H a xs/\xs[i]?=some x,fun i H x H'=>H'=H/\∀ xs,SqT K H a xs->xs[i]?=some x,fun i H=>∃ xs,SqT K H a xs/\xs.length<=i⟩
def Itr (lo:Int) (n:Nat):It:=⟨fun i _=>i<n,fun i H x H'=>H'=H/\x=.int (lo+i),fun i _=>n<=i⟩
theorem zjE {P:Program} {w:World} {K:PySem.W.Frag} {tg:Expr} (a it:Addr):Turn P w K tg (Itl K a) [it] it (fun i h=>h.IsListIter it a i) where
 mem:=by simp
 obj:=fun i h st b hb=>by
  have e:b=it:=by simpa using hb
  subst e
  obtain ⟨o,e,c,d⟩:=st
  exact ⟨o,e,fun v z=>by rw [d] at z;cases z⟩
 keep:=fun i h h' st k=>st.at fun o e=>k it (by simp) o e
 item:=by
  intro X hP hw hK hc i pins s σ H E I hf st hg
  subst hP hw hK
  obtain ⟨xs,x,hq,hx⟩:=hg
  obtain ⟨its,rv,p,hz⟩:=I.list hq
  obtain ⟨u,hu,ru⟩:=rv.get hx
  obtain ⟨f0,f1,f2,f3,f4,f5⟩:=hf it (by simp)
  refine wpAny_pyNext_list_item st p.isList (x:=u) (by simpa using hu) fun h' st' sb=>?_
  have I1:Inv X pins σ H { s with heap:=h' }:=I.turned (t':=s.toks) (fun b o hb e=>(sb.2 b hb).trans e) f0 f1 f3 f4 f5
  obtain ⟨o,e,c,d⟩:=id st'
  exact ⟨u,rfl,zmE (s:={ s with heap:=h' }) e c d (by decide) ⟨x,H,I1,ru,⟨rfl,fun ys hy=>by rw [I.list_inj hy hq];exact hx⟩,st',fun b hb=>(hf b hb).1⟩⟩
 done:=by
  intro X hP hw hK hc i pins s σ H E I hf st hg
  subst hP hw hK
  obtain ⟨xs,hq,hx⟩:=hg
  obtain ⟨its,rv,p,hz⟩:=I.list hq
  obtain ⟨f0,f1,f2,f3,f4,f5⟩:=hf it (by simp)
  have hl:=rv.length
  exact wpAny_pyNext_list_end (I.ok.hd hc) st p.isList (by simp;omega) fun h' eb=>⟨rfl,I.turned (t':=s.toks) (fun b o hb e=>eb b o hb e) f0 f1 f3 f4 f5⟩
 self:=fun _ _ _ _ _ st h=>wpAny_pyIter_listiter st h
theorem ziS {P:Program} {w:World} {K:PySem.W.Frag} {tg:Expr} (a it:Addr):Turn P w K tg (Itt K a) [it] it (fun i h=>h.IsTupleIter it a i) where
 mem:=by simp
 obj:=fun i h st b hb=>by
  have e:b=it:=by simpa using hb
  subst e
  obtain ⟨o,e,c,d⟩:=st
  exact ⟨o,e,fun v z=>by rw [d] at z;cases z⟩
 keep:=fun i h h' st k=>st.at fun o e=>k it (by simp) o e
 item:=by
  intro X hP hw hK hc i pins s σ H E I hf st hg
  subst hP hw hK
  obtain ⟨xs,x,hq,hx⟩:=hg
  obtain ⟨its,rv,p,hz⟩:=I.tuple hq
  obtain ⟨u,hu,ru⟩:=rv.get hx
  obtain ⟨f0,f1,f2,f3,f4,f5⟩:=hf it (by simp)
  refine wpAny_pyNext_tuple_item st (show s.heap.IsTuple a its.toArray from p) (x:=u) (by simpa using hu) fun h' st' sb=>?_
  have I1:Inv X pins σ H { s with heap:=h' }:=I.turned (t':=s.toks) (fun b o hb e=>(sb.2 b hb).trans e) f0 f1 f3 f4 f5
  obtain ⟨o,e,c,d⟩:=id st'
  exact ⟨u,rfl,zmE (s:={ s with heap:=h' }) e c d (by decide) ⟨x,H,I1,ru,⟨rfl,fun ys hy=>by rw [I.tuple_inj hy hq];exact hx⟩,st',fun b hb=>(hf b hb).1⟩⟩
 done:=by
  intro X hP hw hK hc i pins s σ H E I hf st hg
  subst hP hw hK
  obtain ⟨xs,hq,hx⟩:=hg
  obtain ⟨its,rv,p,hz⟩:=I.tuple hq
  obtain ⟨f0,f1,f2,f3,f4,f5⟩:=hf it (by simp)
  have hl:=rv.length
  exact wpAny_pyNext_tuple_end (I.ok.hd hc) st (show s.heap.IsTuple a its.toArray from p) (by simp;omega) fun h' eb=>⟨rfl,I.turned (t':=s.toks) (fun b o hb e=>eb b o hb e) f0 f1 f3 f4 f5⟩
 self:=fun _ _ _ _ _ st h=>wpAny_pyIter_tupleiter st h
theorem ziT {P:Program} {w:World} {K:PySem.W.Frag} {tg:Expr} (it:Addr) (lo:Int) (n:Nat):Turn P w K tg (Itr lo n) [it] it (fun i h=>IsRangeIter h it (lo+(i:Nat) * 1) ((n:Int) - (i:Nat)) 1) where
 mem:=by simp
 obj:=fun i h st b hb=>by
  have e:b=it:=by simpa using hb
  subst e
  exact ⟨_,st,fun v z=>by
   have z':Data.fields _=Data.cell v:=z
   cases z'⟩
 keep:=fun i h h' st k=>k it (by simp) _ st
 item:=by
  intro X hP hw hK hc i pins s σ H E I hf st hg
  subst hP hw hK
  obtain ⟨f0,f1,f2,f3,f4,f5⟩:=hf it (by simp)
  have W:=Walks.range (prog:=X.prog) (w:=X.w) (I.ok.hd hc) it lo 1 n
  refine W.item i s _ _ hg st fun v h' tk hv st' kk=>?_
  obtain ⟨t,rfl⟩:=hv
  have I1:Inv X pins σ H { s with heap:=h',toks:=tk }:=I.turned (fun b o hb e=>kk b o (by simpa using hb) e) f0 f1 f3 f4 f5
  refine ⟨_,rfl,zmE (s:={ s with heap:=h',toks:=tk }) (n := "range_iterator") st' rfl rfl (by decide) ⟨.int (lo+i),H,I1,⟨t,?_⟩,⟨rfl,rfl⟩,st',fun b hb=>(hf b hb).1⟩⟩
  rw [Int.mul_one]
 done:=by
  intro X hP hw hK hc i pins s σ H E I hf st hg
  subst hP hw hK
  obtain ⟨f0,f1,f2,f3,f4,f5⟩:=hf it (by simp)
  exact wpAny_pyNext_range_end (I.ok.hd hc) st (by have:n<=i:=hg;omega) fun h' eb=>⟨rfl,I.turned (t':=s.toks) (fun b o hb e=>eb b o hb e) f0 f1 f3 f4 f5⟩
 self:=fun _ _ _ _ _ st h=>wpAny_pyIter_rangeiter st h
end L2
namespace L2
open PySem PySem.Spec PyProof.Rows
section
variable {X : Cx} {tg : Expr}
def iList (K:PySem.W.Frag) (tl:TE):TI:=fun σ H R=>tl σ H fun x H1=>∃ a,x=.ref a/\(∃ xs,SqL K H1 a xs)/\R (Itl K a) H1
def iTup (K:PySem.W.Frag) (tl:TE):TI:=fun σ H R=>tl σ H fun x H1=>∃ a,x=.ref a/\(∃ xs,SqT K H1 a xs)/\R (Itt K a) H1
theorem zlJ {pins:List (Addr×Obj)} {σ:St} {H:Hp} {s:Shared} {R:It->Hp->Prop} {E:Value->Shared->Prop} {lo hi:Int} {t u v:Tok} {tk:Nat} (I:Inv X pins σ H s) (h1:-(2 ^ 62)<=lo) (h2:lo<2 ^ 62) (h3:-(2 ^ 62)<=hi) (h4:hi<2 ^ 62)
  (q:R (Itr lo (hi - lo).toNat) H):wpAny (model X.prog X.w) X.A (pyIter (.ref s.heap.objs.size)) (PIE X pins σ tg R) E { s with heap:=s.heap.push { cls:=.type "range", data:=.fields #[.int lo t,.int hi u,.int 1 v] },toks:=tk }:=by
 refine wpAny_pyIter_range (IsRange.new ..) (small_one h1 h2 h3 h4) ?_
 have I1:Inv X pins σ H { s with heap:=s.heap.push { cls:=.type "range", data:=.fields #[.int lo t,.int hi u,.int 1 v] },toks:=tk }:=I.kept fun b o e=>Heap.get?_push_of_some _ e
 refine ⟨(s.heap.push { cls:=.type "range", data:=.fields #[.int lo t,.int hi u,.int 1 v] }).objs.size,[(s.heap.push { cls:=.type "range", data:=.fields #[.int lo t,.int hi u,.int 1 v] }).objs.size],_,_,H,rfl,
  I1.kept (t':=tk) fun b o e=>Heap.get?_push_of_some _ e,ziT _ lo (hi - lo).toNat,?_,fun b hb=>?_,q⟩
 .have e1:lo+((0:Nat):Int) * 1=lo:=by simp
  have e2:(((hi - lo).toNat:Nat):Int) - ((0:Nat):Int)=Builtin.Range.rangeSize lo hi 1:=by rw [rangeSize_one];split <;> omega
  show IsRangeIter _ _ (lo+((0:Nat):Int) * 1) ((((hi - lo).toNat:Nat):Int) - ((0:Nat):Int)) 1
  rw [e1,e2]
  exact Heap.get?_push_size _ rfl
 .have e:b=(s.heap.push { cls:=.type "range", data:=.fields #[.int lo t,.int hi u,.int 1 v] }).objs.size:=by simpa using hb
  subst e
  exact I1.fpOk (Nat.le_refl _) (I1.hok.fresh (Nat.le_refl _))
def iRng1 (ta:TA):TI:=fun σ H R=>ta σ H fun vs H1=>∃ j:Int,vs=[.int j]/\-(2 ^ 62)<=j/\j<2 ^ 62/\R (Itr 0 j.toNat) H1
def iRng2 (ta:TA):TI:=fun σ H R=>ta σ H fun vs H1=>∃ i j:Int,vs=[.int i,.int j]/\(-(2 ^ 62)<=i/\i<2 ^ 62/\-(2 ^ 62)<=j/\j<2 ^ 62)/\R (Itr i (j - i).toNat) H1
def tFor (wi:TI) (g:TG) (tb:TS):TS:=fun D σ H=>wi σ H fun J H1=>∃ W:Nat->Nat->St->Hp->Prop,(∃ m,W 0 m σ H1)/\∀ i m σ H,W i m σ H ->
 (J.stop i H/\D.nx σ H)\/(J.go i H/\∃ N:St->Hp->Prop,(∀ σ' H',N σ' H'->∃ m',m' < m/\W (i+1) m' σ' H')/\∀ x H',J.yld i H x H'->g x σ H' fun σ2 H2=>tb { D with nx:=N,ct:=N,bk:=D.nx } σ2 H2)
def zeA (fp:List Addr) (h:Heap):List (Addr×Obj):=fp.filterMap fun b=>(h.get? b).map fun o=>(b,o)
theorem zcj {fp:List Addr} {h:Heap} {b:Addr} {o:Obj} (hb:b∈fp) (e:h.get? b=some o):(b,o)∈zeA fp h:=List.mem_filterMap.mpr ⟨b,hb,by rw [e];rfl⟩
theorem zkj {fp:List Addr} {h:Heap} {p:Addr×Obj} (hp:p∈zeA fp h):p.1∈fp/\h.get? p.1=some p.2:=by
 obtain ⟨b,hb,e⟩:=List.mem_filterMap.mp hp
 cases q:h.get? b with
 |none=>rw [q] at e;cases e
 |some o =>
  rw [q] at e
  have e':(b,o)=p:=Option.some.inj e
  subst e'
  exact ⟨hb,q⟩
theorem Inv.pinned {pins:List (Addr×Obj)} {σ:St} {H:Hp} {s:Shared} {fp:List Addr} (I:Inv X pins σ H s) (hf:∀ b∈fp,FpOk X pins H b) (ho:∀ b∈fp,∃ o,s.heap.get? b=some o/\∀ v,o.data≠.cell v):Inv X (pins++zeA fp s.heap) σ H s :=
 I.pins_of fun p hp=>(List.mem_append.mp hp).elim (fun z=>I.pin p (List.mem_append_right _ z)) fun z=>by
  obtain ⟨hb,e⟩:=zkj z
  obtain ⟨f0,f1,f2,_⟩:=hf p.1 hb
  obtain ⟨o,e',d⟩:=ho p.1 hb
  rw [e] at e';cases e'
  exact ⟨e,f0,f1,f2,d⟩
theorem Inv.unpinned {pins pl:List (Addr×Obj)} {σ:St} {H:Hp} {s:Shared} (I:Inv X (pins++pl) σ H s):Inv X pins σ H s:=I.pins_of fun p hp=>I.pin p (List.mem_append_right _ (List.mem_append_left _ hp))
theorem zpP {iter:Expr} {body:List Stmt} {wi:TI} {g:TG} {tb:TS} {pos:Pos} (hp:PassesOwn (model X.prog X.w) X.A X.env X.xe) (hc:X.calm=true) (hi:PI X tg iter wi) (hg:PG X tg g) (hb:PSs X body tb)
  (hs:∀ x,foldedSetIterable iter X.env x=pure x:=by intro _;rfl):PS X (.For tg iter body [] pos) (tFor wi g tb):=by
 intro pins s σ H D I h
 refine wpAny_For (thn (hi pins s σ H _ I h) fun v s1 h1=>thn h1 fun itv s2 h2=>?_) hs
 obtain ⟨it,fp,tn,J,H2,e,I2,T,st2,f2,W,⟨m0,w0⟩,turn⟩:=h2
 subst e
 have stat:∀ {H':Hp},(∀ b∈fp,H' b=none)->∀ b∈fp,FpOk X pins H' b:=fun hn b hb=>⟨hn b hb,(f2 b hb).2⟩
 refine codeAny_forLoop_any (fun n s'=>∃ i σ' H',Inv X pins σ' H' s'/\tn i s'.heap/\(∀ b∈fp,H' b=none)/\W i n σ' H') ?_ m0 ⟨0,σ,H2,I2,st2,fun b hb=>(f2 b hb).1,w0⟩
 rintro n s3 ⟨i,σ3,H3,I3,st3,fr3,w3⟩
 rcases turn i n σ3 H3 w3 with ⟨stop,qn⟩ | ⟨go,N,hN,step⟩
 .refine wpAny_passesOwn hp (thn (T.done X rfl rfl rfl hc i pins s3 σ3 H3 X.xe I3 (stat fr3) st3 stop) fun r s4 ⟨hr,I4⟩=>?_)
  subst hr
  exact wpAny_execs_nil ⟨σ3,H3,I4,qn⟩
 .refine wpAny_passesOwn hp (thn (T.item X rfl rfl rfl hc i pins s3 σ3 H3 X.xe I3 (stat fr3) st3 go) fun r s4 ⟨u,hr,h4⟩=>?_)
  subst hr
  refine wpAny_passesOwn hp (thn h4 fun _ s5 ⟨x,H5,I5,r5,y5,st5,fr5⟩=>?_)
  have I5':=I5.pinned (stat fr5) (T.obj _ _ st5)
  refine wpAny_passesOwn hp (thn (hg _ s5 σ3 H5 x u _ I5' r5 (step x H5 y5)) fun _ s6 ⟨σ6,H6,I6,q6⟩=>?_)
  refine wpAny_passesOwn hp (thn (hb _ s6 σ6 H6 _ I6 q6) fun f s7 q7=>?_)
  have again:∀ {σ7:St} {H7:Hp},Inv X (pins++zeA fp s5.heap) σ7 H7 s7->N σ7 H7->∃ m,m<n/\∃ i σ' H',Inv X pins σ' H' s7/\tn i s7.heap/\(∀ b∈fp,H' b=none)/\W i m σ' H':=fun {σ7 H7} I7 n7=>by
   obtain ⟨m',hm,w7⟩:=hN σ7 H7 n7
   refine ⟨m',hm,i+1,σ7,H7,I7.unpinned,T.keep _ _ _ st5 fun b hb o e=>(I7.pin (b,o) (List.mem_append_right _ (List.mem_append_right _ (zcj hb e)))).1,fun b hb=>?_,w7⟩
   obtain ⟨o,e,d⟩:=T.obj _ _ st5 b hb
   exact (I7.pin (b,o) (List.mem_append_right _ (List.mem_append_right _ (zcj hb e)))).2.1
  cases f with
  |next=>obtain ⟨σ7,H7,I7,n7⟩:=q7;exact again I7 n7
  |cont=>obtain ⟨σ7,H7,I7,n7⟩:=q7;exact again I7 n7
  |brk=>obtain ⟨σ7,H7,I7,q7⟩:=q7;exact ⟨σ7,H7,I7.unpinned,q7⟩
  |ret v=>obtain ⟨x7,σ7,H7,I7,r7,q7⟩:=q7;exact ⟨x7,σ7,H7,I7.unpinned,r7,q7⟩
end
end L2
namespace L2
open PySem PySem.Spec PyProof.Rows
abbrev R2:=V->V->Hp->VK->Prop
def OpR (X:Cx) (f:Value->Value->Sem Value) (r:R2):Prop :=
 ∀ (pins:List (Addr×Obj)) (s:Shared) (σ:St) (H:Hp) (x y:V) (v u:Value) (Q:VK),Inv X pins σ H s->RelV x v->RelV y u->r x y H Q ->
  wpAny (model X.prog X.w) X.A (f v u) (EP X pins σ Q) X.xe s
def UnR (X:Cx) (f:Value->Sem Value) (r:V->Hp->VK->Prop):Prop :=
 ∀ (pins:List (Addr×Obj)) (s:Shared) (σ:St) (H:Hp) (x:V) (v:Value) (Q:VK),Inv X pins σ H s->RelV x v->r x H Q ->
  wpAny (model X.prog X.w) X.A (f v) (EP X pins σ Q) X.xe s
def zbV (X:Cx) (f:Value) (r:List V->Hp->VK->Prop):Prop :=
 ∀ (pins:List (Addr×Obj)) (s:Shared) (σ:St) (H:Hp) (xs:List V) (us:List Value) (Q:VK),Inv X pins σ H s->Vals xs us->r xs H Q ->
  wpAny (model X.prog X.w) X.A (call f us) (EP X pins σ Q) X.xe s
def TruR (X:Cx) (r:V->Hp->(Bool->Hp->Prop)->Prop):Prop :=
 ∀ (pins:List (Addr×Obj)) (s:Shared) (σ:St) (H:Hp) (x:V) (v:Value) (Q:Bool->Hp->Prop),Inv X pins σ H s->RelV x v->r x H Q ->
  wpAny (model X.prog X.w) X.A (truthy v) (TP X pins σ Q) X.xe s
def tOp (r:R2) (ta tb:TE):TE:=fun σ H Q=>ta σ H fun x H1=>tb σ H1 fun y H2=>r x y H2 Q
def tUn (r:V->Hp->VK->Prop) (ta:TE):TE:=fun σ H Q=>ta σ H fun x H1=>r x H1 Q
def rI (C:Int->Int->Prop) (g:Int->Int->V):R2:=fun x y H Q=>∃ i j,x=.int i/\y=.int j/\C i j/\Q (g i j) H
def rI0 (g:Int->Int->V):R2:=fun x y H Q=>∃ i j,x=.int i/\y=.int j/\Q (g i j) H
def rU (g:Int->V):V->Hp->VK->Prop:=fun x H Q=>∃ i,x=.int i/\Q (g i) H
section
variable {X : Cx} {a b c : Expr} {ta tb tc : TE} {pos : Pos}
theorem binT (ha:PE X a ta) (hb:PE X b tb) {pins:List (Addr×Obj)} {s:Shared} {σ:St} {H:Hp} {R:V->V->Hp->Prop} (I:Inv X pins σ H s)
  (h:ta σ H fun x H1=>tb σ H1 fun y H2=>R x y H2) {Q:Value->Shared->Prop} {f:Value->Value->Sem Value}
  (hf:∀ v u s2 x y H2,Inv X pins σ H2 s2->RelV x v->RelV y u->R x y H2->wpAny (model X.prog X.w) X.A (f v u) Q X.xe s2) :
  wpAny (model X.prog X.w) X.A (eval a X.env) (fun v s₁=>wpAny (model X.prog X.w) X.A (eval b X.env) (fun u s₂=>wpAny (model X.prog X.w) X.A (f v u) Q X.xe s₂) X.xe s₁) X.xe s:=by
 refine thn (ha pins s σ H _ I h) fun v s1 ⟨x,H1,I1,r1,q1⟩=>?_
 refine thn (hb pins s1 σ H1 _ I1 q1) fun u s2 ⟨y,H2,I2,r2,q2⟩=>?_
 exact hf v u s2 x y H2 I2 r1 r2 q2
theorem pe_op {op:Operator} {r:R2} (ho:OpR X (binaryOp op) r) (ha:PE X a ta) (hb:PE X b tb):PE X (.BinOp a op b pos) (tOp r ta tb):=by
 intro pins s σ H Q I h
 exact wpAny_BinOp (binT ha hb I h fun v u s2 x y H2 I2 rx ry q=>ho pins s2 σ H2 x y v u Q I2 rx ry q)
theorem pe_un {op:UnaryOp} {r:V->Hp->VK->Prop} (ho:UnR X (unaryOp op) r) (ha:PE X a ta):PE X (.UnaryOp op a pos) (tUn r ta):=by
 intro pins s σ H Q I h
 exact UnaryOp_ (thn (ha pins s σ H _ I h) fun v s1 ⟨x,H1,I1,r1,q1⟩=>ho pins s1 σ H1 x v Q I1 r1 q1)
theorem opI {f:Value->Value->Sem Value} {C:Int->Int->Prop} {g:Int->Int->Int}
  (rule:∀ (i j:Int) (t u:Tok) (s:Shared) (Q:Value->Shared->Prop) (E:Value->Shared->Prop),C i j->Q (.int (g i j) s.toks) { s with toks:=s.toks+1 }->wpAny (model X.prog X.w) X.A (f (.int i t) (.int j u)) Q E s) :
  OpR X f (rI C fun i j=>.int (g i j)):=by
 intro pins s σ H x y v u Q I rx ry h
 obtain ⟨i,j,rfl,rfl,hc,q⟩:=h
 obtain ⟨t,rfl⟩:=rx
 obtain ⟨t',rfl⟩:=ry
 exact rule i j t t' s _ _ hc ⟨.int (g i j),H,I.tok _,⟨_,rfl⟩,q⟩
theorem opI0 {f:Value->Value->Sem Value} {g:Int->Int->Int}
  (rule:∀ (i j:Int) (t u:Tok) (s:Shared) (Q:Value->Shared->Prop) (E:Value->Shared->Prop),Q (.int (g i j) s.toks) { s with toks:=s.toks+1 }->wpAny (model X.prog X.w) X.A (f (.int i t) (.int j u)) Q E s) :
  OpR X f (rI0 fun i j=>.int (g i j)):=by
 intro pins s σ H x y v u Q I rx ry h
 obtain ⟨i,j,rfl,rfl,q⟩:=h
 obtain ⟨t,rfl⟩:=rx
 obtain ⟨t',rfl⟩:=ry
 exact rule i j t t' s _ _ ⟨.int (g i j),H,I.tok _,⟨_,rfl⟩,q⟩
theorem opB0 {f:Value->Value->Sem Value} {g:Int->Int->Bool}
  (rule:∀ (i j:Int) (t u:Tok) (s:Shared) (Q:Value->Shared->Prop) (E:Value->Shared->Prop),Q (.bool (g i j)) s->wpAny (model X.prog X.w) X.A (f (.int i t) (.int j u)) Q E s) :
  OpR X f (rI0 fun i j=>.bl (g i j)):=by
 intro pins s σ H x y v u Q I rx ry h
 obtain ⟨i,j,rfl,rfl,q⟩:=h
 obtain ⟨t,rfl⟩:=rx
 obtain ⟨t',rfl⟩:=ry
 exact rule i j t t' s _ _ ⟨.bl (g i j),H,I,rfl,q⟩
def CDiv (i j:Int):Prop:=0<j/\j<1073741824
def CDivN (i j:Int):Prop:=j≠0/\j.natAbs<1073741824
def CPow (i j:Int):Prop:=0<=j/\j<=1000000/\i.natAbs<2 ^ 64
def CMul (i j:Int):Prop:=(-(2 ^ 64)<i/\i<2 ^ 64)\/(-(2 ^ 64)<j/\j<2 ^ 64)
theorem CMul.ok {i j:Int} (h:CMul i j):IntMulOk i j:=by
 rcases h with ⟨h1,h2⟩ | ⟨h1,h2⟩
 .exact .of_left (intBits_le_64 h1 h2)
 .exact .of_right (intBits_le_64 h1 h2)
theorem zqe:OpR X (binaryOp .Add) (rI0 fun i j=>.int (i+j)):=opI0 fun _ _ _ _ _ _ _ q=>add_int q
theorem zp8:OpR X (binaryOp .Sub) (rI0 fun i j=>.int (i - j)):=opI0 fun _ _ _ _ _ _ _ q=>sub_int q
theorem zqb:OpR X (binaryOp .Mult) (rI CMul fun i j=>.int (i * j)):=opI fun _ _ _ _ _ _ _ hc q=>mul_int q hc.ok
theorem zoa:OpR X (binaryOp .FloorDiv) (rI CDiv fun i j=>.int (i / j)):=opI fun i j _ _ _ _ _ hc q=>by
 have h1:(0:Int)<j:=hc.1
 have h2:j<1073741824:=hc.2
 exact floordiv_int (by omega) (by rw [Int.fdiv_eq_ediv_of_nonneg i (by omega)];exact q) (.inl (PyProof.noPylong_small (by omega)))
theorem zqc:OpR X (binaryOp .Mod) (rI (fun _ j=>0<j) fun i j=>.int (i % j)):=opI fun i j _ _ _ _ _ hc q=>by
 have h1:(0:Int)<j:=hc
 exact mod_int' (by omega) (by rw [Int.fmod_eq_emod_of_nonneg i (by omega)];exact q)
theorem zqa:OpR X (binaryOp .Pow) (rI CPow fun i j=>.int (i ^ j.toNat)):=opI fun _ _ _ _ _ _ _ hc q=>pow_int_small hc.1 hc.2.1 hc.2.2 q
theorem unI {f:Value->Sem Value} {g:Int->Int}
  (rule:∀ (i:Int) (t:Tok) (s:Shared) (Q:Value->Shared->Prop) (E:Value->Shared->Prop),Q (.int (g i) s.toks) { s with toks:=s.toks+1 }->wpAny (model X.prog X.w) X.A (f (.int i t)) Q E s) :
  UnR X f (rU fun i=>.int (g i)):=by
 intro pins s σ H x v Q I rx h
 obtain ⟨i,rfl,q⟩:=h
 obtain ⟨t,rfl⟩:=rx
 exact rule i t s _ _ ⟨.int (g i),H,I.tok _,⟨_,rfl⟩,q⟩
theorem zpe:UnR X (unaryOp .USub) (rU fun i=>.int (-i)):=unI fun _ _ _ _ _ q=>neg_int q
end
def scal:V->V->Bool
 | .non,.non=>true | .non,.int _=>true | .int _,.non=>true | .non,.bl _=>true | .bl _,.non=>true | .non,.str _=>true | .str _,.non=>true
 | .int _,.int _=>true | .bl _,.bl _=>true | .str _,.str _=>true | .byt _,.byt _=>true
 | .int _,.str _=>true | .str _,.int _=>true | .bl _,.str _=>true | .str _,.bl _=>true
 |_,_=>false
def rEq:R2:=fun x y H Q=>scal x y=true/\Q (.bl (decide (x=y))) H
def rNe:R2:=fun x y H Q=>scal x y=true/\Q (.bl (!decide (x=y))) H
section
variable {X : Cx} {a b c : Expr} {ta tb tc : TE} {pos : Pos}
theorem zqU {pins:List (Addr×Obj)} {σ:St} {H:Hp} {s:Shared} {Q:VK} {k k':Bool} (I:Inv X pins σ H s) (q:Q (.bl k) H) (e:k=k'):EP X pins σ Q (.bool k') s:=by
 subst e
 exact ⟨.bl k,H,I,rfl,q⟩
theorem op_lt:OpR X (compareOp .Lt) (rI0 fun i j=>.bl (decide (i<j))):=opB0 fun _ _ _ _ _ _ _ q=>lt_int q
theorem op_le:OpR X (compareOp .LtE) (rI0 fun i j=>.bl (decide (i<=j))):=opB0 fun _ _ _ _ _ _ _ q=>le_int q
theorem op_gt:OpR X (compareOp .Gt) (rI0 fun i j=>.bl (decide (j<i))):=opB0 fun _ _ _ _ _ _ _ q=>gt_int q
theorem op_ge:OpR X (compareOp .GtE) (rI0 fun i j=>.bl (decide (j<=i))):=opB0 fun _ _ _ _ _ _ _ q=>ge_int q
theorem zkh:OpR X (compareOp .In) (fun x y H Q=>∃ i j,x=.str i/\y=.str j/\Q (.bl (!(Builtin.Str.occurrences j i 0 j.length 1).isEmpty)) H):=by
 intro pins s σ H x y v u Q I rx ry h
 obtain ⟨i,j,rfl,rfl,q⟩:=h
 obtain ⟨t,rfl⟩:=rx
 obtain ⟨t',rfl⟩:=ry
 exact in_str (zqU I q rfl)
def isObj:HO->Bool
 | .lst _=>true
 | .ins _ _ _=>true
 |_=>false
theorem zn5 {op:CmpOp} {r:R2} (ho:OpR X (compareOp op) r) (ha:PE X a ta) (hb:PE X b tb) (hm:behindInMarks op b=false):PE X (.Compare a [op] [b] pos) (tOp r ta tb):=by
 intro pins s σ H Q I h
 exact wpAny_Compare1 (binT ha hb I h fun v u s2 x y H2 I2 rx ry q=>ho pins s2 σ H2 x y v u Q I2 rx ry q) hm
def znC (t:TE):TT:=fun σ H Q=>t σ H fun x H'=>∃ k,x=.bl k/\Q k H'
theorem znR {op:CmpOp} {r:R2} (ho:OpR X (compareOp op) r) (ha:PE X a ta) (hb:PE X b tb) (hm:behindInMarks op b=false):PT X (.Compare a [op] [b] pos) (znC (tOp r ta tb)):=by
 intro pins s σ H Q I h
 refine wpAny_isTrue_Compare1 (thn (ha pins s σ H _ I h) fun v s1 ⟨x,H1,I1,r1,q1⟩=>thn (hb pins s1 σ H1 _ I1 q1) fun u s2 ⟨y,H2,I2,r2,q2⟩ =>
  thn (ho pins s2 σ H2 x y v u _ I2 r1 r2 q2) fun c s3 ⟨z,H3,I3,r3,k,e,q3⟩=>?_) hm
 subst e
 cases r3
 exact wpAny_truthy_bool ⟨H3,I3,q3⟩
def zjH (r r':R2) (ta tb tc:TE):TE:=fun σ H Q=>ta σ H fun x H1=>tb σ H1 fun y H2=>r x y H2 fun z H3=>∃ k,z=.bl k /\
 (if k=true then tc σ H3 fun w' H4=>r' y w' H4 Q else Q (.bl false) H3)
theorem zl1 {op op':CmpOp} {r r':R2} (ho:OpR X (compareOp op) r) (ho':OpR X (compareOp op') r') (ha:PE X a ta) (hb:PE X b tb) (hc:PE X c tc)
  (hm:lastMarks [op,op'] [b,c]=false:=by with_unfolding_all rfl):PE X (.Compare a [op,op'] [b,c] pos) (zjH r r' ta tb tc):=by
 intro pins s σ H Q I h
 refine Compare_chain (thn (ha pins s σ H _ I h) fun v s1 ⟨x,H1,I1,r1,q1⟩=>chain_link (thn (hb pins s1 σ H1 _ I1 q1) fun u s2 ⟨y,H2,I2,r2,q2⟩ =>
  thn (ho pins s2 σ H2 x y v u _ I2 r1 r2 q2) fun d s3 ⟨z,H3,I3,r3,k,e,q3⟩=>?_)) hm
 subst e
 cases r3
 refine wpAny_truthy_bool ?_
 cases k with
 |false=>exact ite_ff ⟨.bl false,H3,I3,rfl,q3⟩
 |true=>exact ite_tt (chain_last (thn (hc pins s3 σ H3 _ I3 q3) fun w' s4 ⟨z',H4,I4,r4,q4⟩=>ho' pins s4 σ H4 y z' u w' Q I4 r2 r4 q4))
theorem zlM {op op':CmpOp} {r r':R2} (ho:OpR X (compareOp op) r) (ho':OpR X (compareOp op') r') (ha:PE X a ta) (hb:PE X b tb) (hc:PE X c tc)
  (hm:lastMarks [op,op'] [b,c]=false:=by with_unfolding_all rfl):PT X (.Compare a [op,op'] [b,c] pos) (znC (zjH r r' ta tb tc)):=by
 intro pins s σ H Q I h
 refine isTrue_chain (thn (ha pins s σ H _ I h) fun v s1 ⟨x,H1,I1,r1,q1⟩=>test_link (thn (hb pins s1 σ H1 _ I1 q1) fun u s2 ⟨y,H2,I2,r2,q2⟩ =>
  thn (ho pins s2 σ H2 x y v u _ I2 r1 r2 q2) fun d s3 ⟨z,H3,I3,r3,k,e,q3⟩=>?_)) hm
 subst e
 cases r3
 refine wpAny_truthy_bool ?_
 cases k with
 |false =>
  obtain ⟨k',e',q'⟩:=q3
  cases e'
  exact ite_ff ⟨H3,I3,q'⟩
 |true =>
  refine ite_tt (test_last (thn (hc pins s3 σ H3 _ I3 q3) fun w' s4 ⟨z',H4,I4,r4,q4⟩=>thn (ho' pins s4 σ H4 y z' u w' _ I4 r2 r4 q4) fun d' s5 ⟨z2,H5,I5,r5,k2,e2,q5⟩=>?_))
  subst e2
  cases r5
  exact wpAny_truthy_bool ⟨H5,I5,q5⟩
def TruV (K:PySem.W.Frag) (x:V) (H:Hp) (k:Bool):Prop :=
 match x with
 | .non=>k=false
 | .bl b=>k=b
 | .int i=>k=(i != 0)
 | .str y=>y.length<=sizeLine/\k=((y.length:Int) != 0)
 | .byt y=>y.size<=sizeLine/\k=((y.size:Int) != 0)
 | .ref p=>(∃ xs,SqL K H p xs/\k=!xs.isEmpty)\/(∃ xs,SqT K H p xs/\k=!xs.isEmpty)\/∃ kvs,H p=some (.dK kvs)/\k=!kvs.isEmpty
 |_=>False
theorem zjl {κ:Type} {kvs:List (κ×V)} {vs:List (κ×Value)} (r:KV kvs vs):(!vs.isEmpty)=!kvs.isEmpty:=by
 cases r <;> rfl
theorem zeS {xs:List V} {its:List Value} (r:Vals xs its):(!its.toArray.isEmpty)=!xs.isEmpty:=by
 cases r <;> simp
theorem zdX:(sizeLine:Nat)<2 ^ 63:=by rw [sizeLine_eq];decide
theorem zpg:TruR X (fun x H Q=>∃ k,TruV X.K x H k/\Q k H):=by
 intro pins s σ H x v Q I rx h
 obtain ⟨k,e,q⟩:=h
 have hl:=zdX
 have hs:sizeLine=16777216:=sizeLine_eq
 cases x with
 |non =>
  cases rx
  have e':k=false:=e
  subst e'
  exact truthy_none ⟨H,I,q⟩
 |bl b =>
  cases rx
  have e':k=b:=e
  subst e'
  exact wpAny_truthy_bool ⟨H,I,q⟩
 |int i =>
  obtain ⟨t,rfl⟩:=rx
  have e':k=(i != 0):=e
  subst e'
  exact PySem.P.truthy_int ⟨H,I,q⟩
 |str y =>
  obtain ⟨t,rfl⟩:=rx
  obtain ⟨hy,e'⟩:y.length<=sizeLine/\k=((y.length:Int) != 0):=e
  subst e'
  exact PySem.P.truthy_str (by omega) ⟨H,I.tok _,q⟩
 |byt y =>
  obtain ⟨t,rfl⟩:=rx
  obtain ⟨hy,e'⟩:y.size<=sizeLine/\k=((y.size:Int) != 0):=e
  subst e'
  exact PySem.W.truthy_bytes (by omega) ⟨H,I.tok _,q⟩
 |ref p =>
  cases rx
  have e':(∃ xs,SqL X.K H p xs/\k=!xs.isEmpty)\/(∃ xs,SqT X.K H p xs/\k=!xs.isEmpty)\/∃ kvs,H p=some (.dK kvs)/\k=!kvs.isEmpty:=e
  rcases e' with ⟨xs,hx,e'⟩ | ⟨xs,hx,e'⟩ | ⟨kvs,hx,e'⟩
  .subst e'
   obtain ⟨its,r,pl,hz⟩:=I.list hx
   have hlen:=r.length
   exact wpAny_truthy_list pl.isList (by simp only [List.size_toArray];omega) ⟨H,I.tok _,by rw [zeS r];exact q⟩
  .subst e'
   obtain ⟨its,r,pl,hz⟩:=I.tuple hx
   have hlen:=r.length
   exact truthy_tuple pl (by simp only [List.size_toArray];omega) ⟨H,I.tok _,by rw [zeS r];exact q⟩
  .subst e'
   obtain ⟨hz,hS,vs,r,m⟩:kvs.length<=sizeLine/\(p==sysModules)=false/\∃ vs,KV kvs vs/\s.heap.DictOf (zaS X.prog X.w) p vs:=I.hok p _ hx
   have hlen:kvs.length=vs.length:=Paired.length r
   exact wpAny_truthy_dict hS m (by omega) ⟨H,I.tok _,by rw [zjl r];exact q⟩
 |_=>exact (show False from e).elim
theorem zlL (ha:PE X a ta) (he:∀ whole,isTrue a X.env whole=(do let v ← whole;standAt a.pos;holding [v] (truthy v))) :
  PT X a (fun σ H Q=>ta σ H fun x H'=>∃ k,TruV X.K x H' k/\Q k H'):=by
 intro pins s σ H Q I h
 exact isTrue_plain (thn (ha pins s σ H _ I h) fun v s1 ⟨x,H1,I1,r1,q1⟩=>zpg pins s1 σ H1 x v Q I1 r1 q1) (he _)
theorem zi8:OpR X (binaryOp .Add) (fun x y H Q=>∃ i j,x=.str i/\y=.str j/\i.length+j.length<=sizeLine/\Q (.str (i++j)) H):=by
 intro pins s σ H x y v u Q I rx ry h
 obtain ⟨i,j,rfl,rfl,hz,q⟩:=h
 obtain ⟨t,rfl⟩:=rx
 obtain ⟨t',rfl⟩:=ry
 exact add_str (fun t' tk=>⟨.str (i++j),H,I.tok _,⟨_,rfl⟩,q⟩) hz
def PlainIxT (b:Expr):Prop:=∀ o i,subscripted b false o i=operate [o,i] (getItem o i)
theorem zc6 {x:V} {us:List Value} (r:Vals [x] us):∃ u,us=[u]/\RelV x u:=by
 cases r with
 |cons r1 r2=>cases r2;exact ⟨_,rfl,r1⟩
theorem zll {x y:V} {us:List Value} (r:Vals [x,y] us):∃ u w',us=[u,w']/\RelV x u/\RelV y w':=by
 cases r with
 |cons r1 r2 =>
  cases r2 with
  |cons r3 r4=>cases r4;exact ⟨_,_,rfl,r1,r3⟩
theorem zk3 (hc:X.calm=true):zbV X (.builtin "max") (fun xs H Q=>∃ i j,xs=[.int i,.int j]/\Q (.int (if j > i then j else i)) H):=by
 intro pins s σ H xs us Q I r h
 obtain ⟨i,j,rfl,q⟩:=h
 obtain ⟨u,w',rfl,⟨t,rfl⟩,⟨t',rfl⟩⟩:=zll r
 refine max_two_ints (I.ok.hd hc) fun h' tk k=>⟨_,H,I.kept k,?_,q⟩
 by_cases hj:j > i
 .rw [if_pos hj,if_pos hj];exact ⟨_,rfl⟩
 .rw [if_neg hj,if_neg hj];exact ⟨_,rfl⟩
theorem zg2:zbV X (.type "int") (fun xs H Q=>(∃ i,xs=[.int i]/\Q (.int i) H)\/∃ k,xs=[.bl k]/\Q (.int (if k then 1 else 0)) H):=by
 intro pins s σ H xs us Q I r h
 rcases h with ⟨i,rfl,q⟩ | ⟨k,rfl,q⟩
 .obtain ⟨u,rfl,t,rfl⟩:=zc6 r
  exact call_int_int ⟨.int i,H,I,⟨_,rfl⟩,q⟩
 .obtain ⟨u,rfl,r1⟩:=zc6 r
  cases r1
  exact call_int_bool ⟨.int (if k then 1 else 0),H,I.tok _,⟨_,rfl⟩,q⟩
def LenV (K:PySem.W.Frag) (x:V) (H:Hp) (n:Nat):Prop :=
 match x with
 | .str y=>y.length<=sizeLine/\n=y.length
 | .byt y=>y.size<=sizeLine/\n=y.size
 | .ref p=>(∃ xs,SqL K H p xs/\n=xs.length)\/∃ xs,SqT K H p xs/\n=xs.length
 |_=>False
end
end L2
namespace L2
open PySem PySem.Spec PyProof.Rows
structure ObjM (h:Heap) (x dx C:Addr) (mA:Str->Option Value):Prop where
 obj:h.get? x=some (PySem.W.instObj C dx)
 ns:h.Ns1 dx mA
 ne:dx≠x
theorem zku {h:Heap} {dx:Addr} {mA:Str->Option Value} (n:h.Ns1 dx mA):∃ od,h.get? dx=some od/\∀ name,PySem.W.lookIn name od=some (mA name):=by
 obtain ⟨o,es,ep,ho,hd,hk,_,hm⟩:=n
 refine ⟨o,ho,fun name=>?_⟩
 have e:=hm name
 unfold nsFind findBy at e
 rw [← Array.find?_toList] at e
 unfold PySem.W.lookIn
 rw [hd]
 dsimp only
 split
 .rename_i y q
  rw [q] at e
  exact congrArg some e
 .rename_i q
  rw [q] at e
  have a:es.toList.any (·.refKey)=false:=by
   rw [List.any_eq_false]
   intro y hy
   obtain ⟨z,t,hkey⟩:=hk y (Array.mem_toList_iff.mp hy)
   simp [DictEntry.refKey,hkey]
  have a':¬ es.toList.any (·.refKey)=true:=by rw [a];exact zzN
  rw [if_neg a']
  exact congrArg some e
theorem ObjM.look {h:Heap} {x dx C:Addr} {mA:Str->Option Value} (I:ObjM h x dx C mA):∃ od,PySem.W.InstAt h x (PySem.W.instObj C dx) C (some od)/\∀ name,PySem.W.lookIn name od=some (mA name) :=
 let ⟨od,ho,hl⟩:=zku I.ns
 ⟨od,⟨I.obj,rfl,rfl,ho⟩,hl⟩
section
variable {prog : Program} {w : World} {A : Around} {E : Value → Shared → Prop} {s : Shared} {K : PySem.W.Frag} {x dx C f : Addr} {mA : Str → Option Value} {name : Str} {v : Value}
theorem zoD {expr:Bool} {Q:Value->Shared->Prop} (X:K.In s.heap) (I:ObjM s.heap x dx C mA) (hg:PySem.W.plainGet K C name=true) (hh:PySem.W.hasDictIn K C=true)
  (ha:PySem.W.findIn K (.ref C) name=some none) (hv:mA name=some v) (hv':PySem.W.handedIn v=true) (h:Q v { s with toks:=s.toks+1 }) :
  wpAny (model prog w) A (getAttr (.ref x) name expr) Q E s:=by
 obtain ⟨od,J,hl⟩:=I.look
 exact PySem.W.get_value X J (PySem.W.plainGet_of hg).1 (PySem.W.findObj_own hh ha rfl (by rw [hl,hv])) hv' h
theorem znK {ns:List Str} {Q:Unit->Shared->Prop} (X:K.In s.heap) (I:ObjM s.heap x dx C mA)
  (hs:PySem.W.findIn K (.ref C) "__setattr__" = some (some (.builtin "object.__setattr__"))) (hp:PySem.W.plainOver K C=true) (ht:PySem.W.takerIn K C name=some none) (hh:PySem.W.hasDictIn K C=true)
  (hw:PySem.Within mA ns) (hsz:ns.length<=sizeLine)
  (h:∀ h',ObjM h' x dx C (fun y=>if y=name then some v else mA y)->Heap.SameBut dx s.heap h'->Q () { s with heap:=h',toks:=s.toks+2 }) :
  wpAny (model prog w) A (setAttr (.ref x) name v) Q E s:=by
 obtain ⟨od,J,hl⟩:=I.look
 refine PySem.W.set_plain X J hs (PySem.W.osa_open (s:={ s with toks:=s.toks+1 }) (r:=none) X J hp ht fun b=>?_)
 obtain ⟨cd,hc,hd'⟩:=PySem.W.any_some hh
 have hx:s.heap.get? x=some ⟨.ref C,some dx,.plain,#[]⟩:=I.obj
 refine wpAny_bind (wpAny_pure (wpAny_bind (wpAny_bind (wpAny_loadPart hx (wpAny_bind (PySem.W.Looks.here (s:={ s with toks:=s.toks+1 }) (PySem.W.looks_clsIn X hc) ?_))))))
 rw [hd']
 refine wpAny_pure (a:=some dx) (wpAny_bind (wpAny_pure (wpAny_bind ?_)))
 refine wpAny_nsSet1 (s:={ s with toks:=s.toks+1 }) I.ns fun h' hn2 hs2=>?_
 obtain ⟨oD,esD,epD,hoD,hdD,hcD⟩:=hn2.count (PySem.Within.cons name v hw)
 refine wpAny_bind (wpAny_lookBehind hoD (by rw [hdD];exact pastItsLine_dict (Nat.le_trans hcD (by rw [List.length_cons];omega))) ?_)
 exact wpAny_pure (h _ ⟨(hs2.2 _ (Ne.symm I.ne)).trans I.obj,hn2,I.ne⟩ hs2)
theorem zmc {R:Result->Shared->Prop} {vs:List Value} {kw:List (Str×Value)} (X:K.In s.heap) (hm:PySem.W.makesIn K C=true)
  (hi:PySem.W.findIn K (.ref C) "__init__" = some (some (.ref f))) (hf:PySem.W.typeIn K (.ref f)=some (.type "function"))
  (h:codeAny (model prog w) (A.under (.builtin "type.__call__" ⟨.ref C::vs,kw⟩)) (.call (.ref f) ⟨.ref (s.heap.objs.size+1)::vs,kw⟩) (PySem.W.InitBack (s.heap.objs.size+1) R)
   { s with heap:=(s.heap.push PySem.W.emptyDict).push (PySem.W.instObj C s.heap.objs.size) }) :
  codeAny (model prog w) A (.call (.ref C) ⟨vs,kw⟩) R s:=by
 obtain ⟨hh,g,d,t,os⟩:=s
 exact PySem.W.make_core (PySem.W.makes_of X hm) (PySem.W.looks_findIn X hi) (fun self=>PySem.W.bind_fn X self hf) (.inl rfl) h
end
def putF (f:Str) (v:V):List (Str×V)->List (Str×V)
 | []=>[(f,v)]
 | (g,x)::r=>if g=f then (g,v)::r else (g,x)::putF f v r
theorem zdT (f g:Str) (v:V):∀ fs:List (Str×V),(putF f v fs).lookup g=if g=f then some v else fs.lookup g
 | []=>by
  show List.lookup g [(f,v)]=_
  by_cases h:g=f
  .have hb:(g==f)=true:=beq_iff_eq.mpr h
   simp only [List.lookup,hb,if_pos h]
  .have hb:(g==f)=false:=beq_eq_false_iff_ne.mpr h
   simp only [List.lookup,hb,if_neg h]
 | (k,x)::r=>by
  have ih:=zdT f g v r
  rw [show putF f v ((k,x)::r)=(if k=f then (k,v)::r else (k,x)::putF f v r) from rfl]
  by_cases hk:k=f
  .rw [if_pos hk]
   by_cases h:g=k
   .have hb:(g==k)=true:=beq_iff_eq.mpr h
    simp only [List.lookup,hb,if_pos (h.trans hk)]
   .have hb:(g==k)=false:=beq_eq_false_iff_ne.mpr h
    simp only [List.lookup,hb,if_neg (fun e:g=f=>h (e.trans hk.symm))]
  .rw [if_neg hk]
   by_cases h:g=k
   .have hb:(g==k)=true:=beq_iff_eq.mpr h
    simp only [List.lookup,hb,if_neg (fun e:g=f=>hk (h.symm.trans e))]
   .have hb:(g==k)=false:=beq_eq_false_iff_ne.mpr h
    simp only [List.lookup,hb]
    exact ih
theorem zd1 (f:Str) (v:V):∀ fs:List (Str×V),f∈(putF f v fs).map (·.1)/\∀ g,g∈fs.map (·.1)->g∈(putF f v fs).map (·.1)
 | []=>⟨by simp [putF],fun g h=>by simp at h⟩
 | (k,x)::r=>by
  obtain ⟨i1,i2⟩:=zd1 f v r
  rw [show putF f v ((k,x)::r)=(if k=f then (k,v)::r else (k,x)::putF f v r) from rfl]
  by_cases hk:k=f
  .rw [if_pos hk]
   subst hk
   exact ⟨by simp,fun g h=>by simpa using h⟩
  .rw [if_neg hk]
   refine ⟨?_,fun g h=>?_⟩
   .rw [List.map_cons]
    exact List.mem_cons_of_mem _ i1
   .rw [List.map_cons] at h ⊢
    rcases List.mem_cons.mp h with e | e
    .exact List.mem_cons.mpr (.inl e)
    .exact List.mem_cons_of_mem _ (i2 g e)
theorem zdY (f:Str) (v:V):∀ fs:List (Str×V),(putF f v fs).length<=fs.length+1
 | []=>by simp [putF]
 | (k,x)::r=>by
  have ih:=zdY f v r
  rw [show putF f v ((k,x)::r)=(if k=f then (k,v)::r else (k,x)::putF f v r) from rfl]
  by_cases hk:k=f
  .rw [if_pos hk,List.length_cons,List.length_cons];omega
  .rw [if_neg hk,List.length_cons,List.length_cons];omega
theorem RelO.some_of {v:V} {o:Option Value} (r:RelO (some v) o):∃ u,o=some u/\RelV v u:=by
 cases o with
 |none=>exact (show False from r).elim
 |some u=>exact ⟨u,rfl,r⟩
theorem zkL {v:V} {u:Value} (r:RelV v u):PySem.W.handedIn u=true:=by
 cases v with
 |non=>cases (show u=Value.none from r);rfl
 |bl b=>cases (show u=Value.bool b from r);rfl
 |int i=>obtain ⟨t,e⟩:=(show ∃ t,u=Value.int i t from r);cases e;rfl
 |str x=>obtain ⟨t,e⟩:=(show ∃ t,u=Value.str x t from r);cases e;rfl
 |byt b=>obtain ⟨t,e⟩:=(show ∃ t,u=Value.bytes b t from r);cases e;rfl
 |flt b=>obtain ⟨t,e⟩:=(show ∃ t,u=Value.float b t from r);cases e;rfl
 |ref a=>cases (show u=Value.ref a from r);rfl
 |ty n=>cases (show u=Value.type n from r);rfl
section
variable {P : Program} {w : World} {H H' : Hp} {h h' : Heap} {a C dx : Addr} {fs fs' : List (Str × V)}
theorem zkI (hok:HOk P w H h) (e:H a=some (.ins C dx fs)):∃ mA,ObjM h a dx C mA/\(∀ f,RelO (fs.lookup f) (mA f))/\PySem.Within mA (fs.map (·.1))/\fs.length<=1000/\H dx=some (.own a):=by
 obtain ⟨d,z,ne,ob,mA,n,r,q⟩:=(show zbn P w H h a (.ins C dx fs) from hok a _ e)
 exact ⟨mA,⟨ob,n,ne⟩,r,q,z,d⟩
end
structure Cls (K:PySem.W.Frag) (C:Addr):Prop where
 pg:PySem.W.plainGet K C Str.empty=true
 hd:PySem.W.hasDictIn K C=true
 po:PySem.W.plainOver K C=true
 sa:PySem.W.findIn K (.ref C) "__setattr__" = some (some (.builtin "object.__setattr__"))
theorem Cls.get {K:PySem.W.Frag} {C:Addr} (c:Cls K C) (f:Str):PySem.W.plainGet K C f=true:=c.pg
def zcu (K:PySem.W.Frag) (C:Addr) (f:Str):Prop:=PySem.W.findIn K (.ref C) f=some none
theorem zcu.taker {K:PySem.W.Frag} {C:Addr} {f:Str} (n:zcu K C f):PySem.W.takerIn K C f=some none:=by
 unfold PySem.W.takerIn
 rw [show PySem.W.findIn K (.ref C) f=some none from n]
 rfl
structure Con (K:PySem.W.Frag) (C:Addr) (f:Str) (v:V) (u:Value):Prop where
 at_:PySem.W.findIn K (.ref C) f=some (some u)
 rel:RelV v u
 get:PySem.W.specialIn K u "__get__" = some none
 cp:PySem.W.copiedNames.contains f=false
structure Meth (K:PySem.W.Frag) (C:Addr) (m:Str) (f:Addr):Prop where
 at_:PySem.W.findIn K (.ref C) m=some (some (.ref f))
 fn:PySem.W.isFn K (.ref f)=true
 kp:PySem.W.keepIn K (.ref f)=true
section
variable {X : Cx} {pins : List (Addr × Obj)} {σ : St} {H : Hp} {s : Shared} {a C dx : Addr} {fs : List (Str × V)} {f : Str} {v : V} {A : Around} {E : Value → Shared → Prop}
theorem zjm {b:Bool} {Q:Value->Shared->Prop} (I:Inv X pins σ H s) (e:H a=some (.ins C dx fs)) (c:Cls X.K C) (n:zcu X.K C f) (l:fs.lookup f=some v)
  (h:∀ u s',Inv X pins σ H s'->RelV v u->Q u s'):wpAny (model X.prog X.w) A (getAttr (.ref a) f b) Q E s:=by
 obtain ⟨mA,O,r,_,_,_⟩:=zkI I.hok e
 obtain ⟨u,hu,ru⟩:=RelO.some_of (v:=v) (o:=mA f) (by rw [← l];exact r f)
 exact zoD I.kIn O (c.get f) c.hd n hu (zkL ru) (h u _ (I.tok _) ru)
theorem ziW {y:V} {u:Value} {Q:Unit->Shared->Prop} (I:Inv X pins σ H s) (e:H a=some (.ins C dx fs)) (c:Cls X.K C) (n:zcu X.K C f) (hl:fs.length<1000) (ry:RelV y u)
  (h:∀ s',Inv X pins σ (upd H a (.ins C dx (putF f y fs))) s'->Q () s'):wpAny (model X.prog X.w) A (setAttr (.ref a) f u) Q E s:=by
 obtain ⟨mA,O,r,wi,_,ho⟩:=zkI I.hok e
 have hz:(fs.map (·.1)).length<=sizeLine:=by rw [List.length_map,sizeLine_eq];omega
 refine znK I.kIn O c.sa c.po n.taker c.hd wi hz fun h' O' sb=>h _ ?_
 have hd:∃ o,h'.get? dx=some o:=let ⟨o,_,_,e',_⟩:=O'.ns;⟨o,e'⟩
 refine I.write (x:=a) (e:=dx) (by rw [e];exact True.intro) (.inr ho) (fun b q hb z=>(sb.2 b hb).trans z) hd ?_
 refine ⟨by rw [zam O.ne];exact ho,?_,O.ne,O'.obj,_,O'.ns,fun g=>?_,fun g hg=>?_⟩
 .have:=zdY f y fs;omega
 .show RelO ((putF f y fs).lookup g) (if g=f then some u else mA g)
  rw [zdT]
  by_cases q:g=f
  .rw [if_pos q,if_pos q];exact ry
  .rw [if_neg q,if_neg q];exact r g
 .by_cases q:g=f
  .rw [q];exact (zd1 f y fs).1
  .refine (zd1 f y fs).2 g (wi g fun z=>hg ?_)
   show (if g=f then some u else mA g)=none
   rw [if_neg q];exact z
theorem Inv.made (I:Inv X pins σ H s):Inv X pins σ (upd (upd H s.heap.objs.size (.own (s.heap.objs.size+1))) (s.heap.objs.size+1) (.ins C s.heap.objs.size []))
  { s with heap:=(s.heap.push PySem.W.emptyDict).push (PySem.W.instObj C s.heap.objs.size) }:=by
 have e1:(s.heap.push PySem.W.emptyDict).get? s.heap.objs.size=some PySem.W.emptyDict:=Heap.get?_push_size s.heap rfl
 have e2:((s.heap.push PySem.W.emptyDict).push (PySem.W.instObj C s.heap.objs.size)).get? (s.heap.objs.size+1)=some (PySem.W.instObj C s.heap.objs.size):=by
  have:=Heap.get?_push_size (s.heap.push PySem.W.emptyDict) (o:=PySem.W.instObj C s.heap.objs.size) rfl
  rwa [Heap.size_push] at this
 have e3:(s.heap.push PySem.W.emptyDict).Ns s.heap.objs.size (fun _=>none):=⟨PySem.W.emptyDict,#[],_,e1,rfl,(fun e he=>absurd he (by simp)),fun _=>rfl⟩
 have I1:=I.laid (a:=s.heap.objs.size) (o:=.own (s.heap.objs.size+1)) (h':=s.heap.push PySem.W.emptyDict) (t':=s.toks) (fun b u q=>Heap.get?_push_of_some _ q) (Nat.le_refl _) ⟨_,e1⟩
 refine I1.laid (a:=s.heap.objs.size+1) (o:=.ins C s.heap.objs.size []) (t':=s.toks) (fun b u q=>Heap.get?_push_of_some _ q) (Nat.le_of_eq (Heap.size_push _ _)) ?_
 have ne:s.heap.objs.size≠s.heap.objs.size+1:=Nat.ne_of_lt (Nat.lt_succ_self _)
 refine ⟨by rw [zam ne,zbt],Nat.zero_le _,ne,e2,fun _=>none,(Heap.Ns1.of_empty e3).at fun o q=>Heap.get?_push_of_some _ q,fun _=>True.intro,fun y hy=>absurd rfl hy⟩
theorem zo6 {prog:Program} {w:World} {env:Env} {e:Expr} {f:Str} {pos:Pos} {s:Shared} {Q:Value->Shared->Prop} (hb:attributeBase e f env (eval e env)=eval e env)
  (h:wpAny (model prog w) A (eval e env) (fun o s₁=>wpAny (model prog w) A (getAttr o f true) Q E s₁) E s):wpAny (model prog w) A (eval (.Attribute e f pos) env) Q E s :=
 Attribute_any_ h (by rw [arm_eval_Attribute,hb])
end
def tFld (K:PySem.W.Frag) (ta:TE) (f:Str):TE:=fun σ H Q=>ta σ H fun x H1=>∃ a C dx fs v,x=.ref a/\H1 a=some (.ins C dx fs)/\Cls K C/\zcu K C f/\fs.lookup f=some v/\Q v H1
def tCon (K:PySem.W.Frag) (ta:TE) (f:Str):TE:=fun σ H Q=>ta σ H fun x H1=>∃ a C dx fs v u,x=.ref a/\H1 a=some (.ins C dx fs)/\Cls K C/\Con K C f v u/\fs.lookup f=none/\Q v H1
def sFld (K:PySem.W.Frag) (ta tv:TE) (f:Str):TS:=fun D σ H=>tv σ H fun y H1=>ta σ H1 fun x H2=>∃ a C dx fs,x=.ref a/\H2 a=some (.ins C dx fs)/\Cls K C/\zcu K C f/\fs.length<1000 /\
 D.nx σ (upd H2 a (.ins C dx (putF f y fs)))
def InOp (X:Cx) (op:Operator) (rd:V->V->Hp->VK->Prop):Prop :=
 ∀ (pins:List (Addr×Obj)) (s:Shared) (σ:St) (H:Hp) (x y:V) (u v:Value) (Q:VK),Inv X pins σ H s->RelV x u->RelV y v->rd x y H Q->wpAny (model X.prog X.w) X.A (inplaceOp op u v) (EP X pins σ Q) X.xe s
def sFldAug (K:PySem.W.Frag) (ta tv:TE) (rd:V->V->Hp->VK->Prop) (f:Str):TS:=fun D σ H=>ta σ H fun x H1=>∃ a C dx fs v,x=.ref a/\H1 a=some (.ins C dx fs)/\Cls K C/\zcu K C f/\fs.lookup f=some v /\
 tv σ H1 fun y H2=>rd v y H2 fun z H3=>∃ dx' fs',H3 a=some (.ins C dx' fs')/\fs'.length<1000/\D.nx σ (upd H3 a (.ins C dx' (putF f z fs')))
section
variable {X : Cx} {o e value : Expr} {f : Str} {pos pos' tpos : Pos} {ta tv : TE}
theorem zp3 (he:PE X e ta) (hb:attributeBase e f X.env (eval e X.env)=eval e X.env):PE X (.Attribute e f pos) (tFld X.K ta f):=by
 intro pins s σ H Q I h
 refine zo6 hb (thn (he pins s σ H _ I h) fun u s1 ⟨x,H1,I1,rx,a,C,dx,fs,v,ex,ea,c,n,l,q⟩=>?_)
 subst ex
 obtain rfl:u=Value.ref a:=rx
 exact zjm I1 ea c n l fun u' s2 I2 ru=>⟨v,H1,I2,ru,q⟩
theorem zpQ (ha:PE X o ta) (hv:PE X value tv) (hs:swapsWith value (some (.Attribute o f pos')) pos.line X.env=pure false):PS X (.Assign [.Attribute o f pos'] value pos) (sFld X.K ta tv f):=by
 intro pins s σ H D I h
 refine plainObj_wpAny_Assign_Attribute (thn (hv pins s σ H _ I h) fun u s1 ⟨y,H1,I1,ry,q⟩=>thn (ha pins s1 σ H1 _ I1 q) fun ov s2 ⟨x,H2,I2,rx,a,C,dx,fs,ex,ea,c,n,l,q2⟩=>?_) hs
 subst ex
 obtain rfl:ov=Value.ref a:=rx
 exact ziW I2 ea c n l ry fun s3 I3=>⟨σ,_,I3,q2⟩
def rAdd:V->V->Hp->VK->Prop:=fun x y H Q=>∃ i j,x=.int i/\y=.int j/\Q (.int (i+j)) H
def rSub:V->V->Hp->VK->Prop:=fun x y H Q=>∃ i j,x=.int i/\y=.int j/\Q (.int (i - j)) H
end
section
variable {X : Cx} {pins : List (Addr × Obj)} {σ : St} {H : Hp} {s : Shared} {A : Around} {E : Value → Shared → Prop} {Q : Value → Shared → Prop} {c : Value} {b : Bool}
inductive TyOf (K:PySem.W.Frag) (H:Hp):V->Value->Prop where
 |non:TyOf K H .non (.type "NoneType")
 |bl (x:Bool):TyOf K H (.bl x) (.type "bool")
 |int (i:Int):TyOf K H (.int i) (.type "int")
 |str (x:Str):TyOf K H (.str x) (.type "str")
 |flt (x:UInt64):TyOf K H (.flt x) (.type "float")
 |lst {a:Addr} {xs:List V} (e:H a=some (.lst xs)):TyOf K H (.ref a) (.type "list")
 |frz {a:Addr} {o:Obj} {xs:List V} (e:H a=some (.frz o (.lst xs))):TyOf K H (.ref a) (.type "list")
 |tup {a:Addr} {xs:List V} (e:H a=some (.tup xs)):TyOf K H (.ref a) (.type "tuple")
 |dK {a:Addr} {kvs:List (Key×V)} (e:H a=some (.dK kvs)):TyOf K H (.ref a) (.type "dict")
 |dT {a:Addr} {kvs:List (List Key×V)} (e:H a=some (.dT kvs)):TyOf K H (.ref a) (.type "dict")
 |ins {a C dx:Addr} {fs:List (Str×V)} (e:H a=some (.ins C dx fs)) (cl:Cls K C) (ha:PySem.W.findIn K (.ref C) "__class__" = some (some (.builtin "object.__class__")))
   (hn:PySem.W.specialIn K (.builtin "object.__class__") "__get__" = some (some (.builtin "getset_descriptor.__get__"))) (htk:PySem.W.takesIn K (.builtin "object.__class__")=some true)
   (hm:PySem.W.mroIn K C (.type "object")=some true):TyOf K H (.ref a) (.ref C)
end
end L2
namespace L2
open PySem PySem.Spec PyProof.Rows
structure Room (k:Nat) (A:Around):Prop where
 hd:A.handled=none
 dp:A.depth+3 * k+5<recursionLimit
 un:A.units+16 * k+200<cLine
theorem Room.mono {j k:Nat} {A:Around} (r:Room k A) (h:j<=k):Room j A:=⟨r.hd,by have:=r.dp;omega,by have:=r.un;omega⟩
theorem Room.deeper {k:Nat} {A:Around} (r:Room (k+1) A) (env:Env):Room k (A.deeper env) :=
 ⟨r.hd,by have:=r.dp;show A.depth+1+3 * k+5<_;omega,by have:=r.un;show A.units+3+16 * k+200<_;omega⟩
theorem zjd {A:Around} {C:Addr} {us:List Value} {kw:List (Str×Value)}:(A.under (.builtin "type.__call__" ⟨.ref C::us,kw⟩)).depth=A.depth+1:=by
 first | rfl | simp [Around.under,Code.weight,Code.isCreation,Code.isGuard,Code.isCaller,Code.frames,Code.isFrame,guardIds]
theorem zjc {A:Around} {C:Addr} {us:List Value} {kw:List (Str×Value)}:(A.under (.builtin "type.__call__" ⟨.ref C::us,kw⟩)).units=A.units+1:=by
 first | rfl | simp [Around.under,Code.cUnits,Code.frames,Code.isFrame]
theorem Room.make {k:Nat} {A:Around} (r:Room (k+1) A) (C:Addr) (us:List Value) (kw:List (Str×Value)):Room k (A.under (.builtin "type.__call__" ⟨.ref C::us,kw⟩)) :=
 ⟨r.hd,by have:=r.dp;rw [zjd];omega,by have:=r.un;rw [zjc];omega⟩
theorem Room.depth {k:Nat} {A:Around} (r:Room k A):A.depth<recursionLimit:=by have:=r.dp;omega
def tNil:TA:=fun _ H Q=>Q [] H
def tCons (ta:TE) (tr:TA):TA:=fun σ H Q=>ta σ H fun x H1=>tr σ H1 fun xs H2=>Q (x::xs) H2
section
variable {X : Cx} {e : Expr} {es : List Expr} {te : TE} {t : TA} {pos : Pos}
theorem zp6:PA X [] tNil:=fun _ _ _ _ H Q I h=>Calls.spliced_nil ⟨[],H,I,.nil,h⟩
theorem zn8 (ha:PE X e te) (hr:PA X es t) (hs:starEach (e::es) X.env=(false,eval e X.env)::starEach es X.env:=by rfl):PA X (e::es) (tCons te t):=by
 intro pos pins s σ H Q I h
 rw [hs]
 show wpAny _ _ (spliced ((false,eval e X.env)::backTo pos (starEach es X.env))) _ _ s
 refine Calls.spliced_cons (thn (ha pins s σ H _ I h) fun u s1 ⟨x,H1,I1,r1,q1⟩=>?_)
 exact thn (hr pos pins s1 σ H1 _ I1 q1) fun us s2 ⟨xs,H2,I2,r2,q2⟩=>⟨x::xs,H2,I2,.cons r1 r2,q2⟩
def tTup (t:TA):TE:=fun σ H Q=>t σ H fun xs H1=>xs.length<=sizeLine/\∀ p,H1 p=none->Q (.ref p) (upd H1 p (.tup xs))
def tLst (t:TA):TE:=fun σ H Q=>t σ H fun xs H1=>xs.length<=sizeLine/\∀ p,H1 p=none->Q (.ref p) (upd H1 p (.lst xs))
theorem zpX {x1} (h:PA X es t):PE X (.Tuple es x1 pos) (tTup t):=by
 intro pins s σ H Q I hq
 refine wpAny_Tuple_spliced (thn (h pos pins s σ H _ I hq) fun us s1 ⟨xs,H1,I1,r,z,q⟩=>⟨by rw [← r.length];exact z,?_⟩)
 have hf:H1 s1.heap.objs.size=none:=I1.hok.fresh (Nat.le_refl _)
 refine ⟨.ref s1.heap.objs.size,upd H1 s1.heap.objs.size (.tup xs),I1.laid (t':=s1.toks) (fun b u e=>Heap.get?_push_of_some _ e) (Nat.le_refl _) ?_,rfl,q _ hf⟩
 exact ⟨z,us,r,⟨_,Heap.get?_push_size _ rfl,rfl,_,rfl⟩⟩
theorem zp1 (h:PA X es t):PE X (.List es pos) (tLst t):=by
 intro pins s σ H Q I hq
 refine wpAny_List_spliced (thn (h pos pins s σ H _ I hq) fun us s1 ⟨xs,H1,I1,r,z,q⟩=>⟨by rw [← r.length];exact z,?_⟩)
 have hf:H1 s1.heap.objs.size=none:=I1.hok.fresh (Nat.le_refl _)
 refine ⟨.ref s1.heap.objs.size,upd H1 s1.heap.objs.size (.lst xs),I1.laid (t':=s1.toks) (fun b u e=>Heap.get?_push_of_some _ e) (Nat.le_refl _) ?_,rfl,q _ hf⟩
 exact ⟨z,us,0,r,Heap.get?_push_size _ rfl⟩
end
abbrev Sp:=List V->Hp->VK->XK->Prop
abbrev CXT:=List Env->Hp->Shared->XK->Value->Shared->Prop
structure Env0 (P:Program) (w:World) (K:PySem.W.Frag) (mg:Str->Option Value) (base:Heap) (A:Around) (outer:List Env) (s:Shared) (H:Hp):Prop where
 frames:A.frames=some outer
 mod:Mod K mg base
 bs:∀ b o,base.get? b=some o->s.heap.get? b=some o/\H b=none
 bsz:base.objs.size<=s.heap.objs.size
 funs:s.heap.FunFrames base outer
 frf:∀ b∈frs outer,H b=none
 hok:HOk P w H s.heap
 bare:AllBare s.gens
def CE (outer:List Env) (P:Program) (w:World) (H:Hp) (s:Shared) (Q:VK) (u:Value) (s':Shared):Prop :=
 ∃ v H',s'.os=s.os/\AllBare s'.gens/\Un (frs outer) [] H H' s.heap s'.heap/\HOk P w H' s'.heap/\RelV v u/\Q v H'
def CR (CX:CXT) (outer:List Env) (P:Program) (w:World) (H:Hp) (s:Shared) (Q:VK) (E:XK) (r:Result) (s':Shared):Prop :=
 match r with
 | .ok (.ret u)=>CE outer P w H s Q u s'
 | .ok _=>False
 | .error e=>CX outer H s E e s'
structure FnOk (P:Program) (w:World) (K:PySem.W.Frag) (mg:Str->Option Value) (base:Heap) (CX:CXT) (k:Nat) (f:Addr) (fd:FuncData) (ps:List Str) (sp:Sp):Prop where
 len:∀ vs H Q E,sp vs H Q E->vs.length=ps.length
 run:∀ (A:Around) (outer:List Env) (s:Shared) (H:Hp) (args:Args) (us:List Value) (vs:List V) (Q:VK) (E:XK),Room k A->Env0 P w K mg base A outer s H->BindsTo s fd args (ps.zip us)->Vals vs us->sp vs H Q E ->
  codeAny (model P w) A (.call (.ref f) args) (CR CX outer P w H s Q E) s
theorem FnOk.mono {P:Program} {w:World} {K:PySem.W.Frag} {mg:Str->Option Value} {base:Heap} {CX:CXT} {j k:Nat} {f:Addr} {fd:FuncData} {ps:List Str} {sp:Sp} (F:FnOk P w K mg base CX j f fd ps sp) (h:j<=k) :
  FnOk P w K mg base CX k f fd ps sp:=⟨F.len,fun A outer s H args us vs Q E hr=>F.run A outer s H args us vs Q E (hr.mono h)⟩
theorem Env0.make {P:Program} {w:World} {K:PySem.W.Frag} {mg:Str->Option Value} {base:Heap} {A:Around} {outer:List Env} {s:Shared} {H:Hp} (e:Env0 P w K mg base A outer s H) (C:Addr) (us:List Value) (kw:List (Str×Value)) :
  Env0 P w K mg base (A.under (.builtin "type.__call__" ⟨.ref C::us,kw⟩)) outer s H:=⟨by first | exact e.frames | (simpa [Around.under,Code.envs,Code.isFrame,pushEnvs] using e.frames),e.mod,e.bs,e.bsz,e.funs,e.frf,e.hok,e.bare⟩
section
variable {X : Cx} {pins : List (Addr × Obj)} {σ : St} {H : Hp} {s s' : Shared}
theorem Inv.env0 (I:Inv X pins σ H s):Env0 X.prog X.w X.K X.mg X.base X.A X.stack s H :=
 ⟨I.ok.frames,I.ok.mod,I.bs,Nat.le_trans I.ok.bsz I.sz,I.stack,I.stkFree,I.hok,I.bare⟩
theorem Inv.after {Q:VK} {u:Value} (I:Inv X pins σ H s) (h:CE X.stack X.prog X.w H s Q u s'):EP X pins σ Q u s':=by
 obtain ⟨v,H',os,bare,un,hok,r,q⟩:=h
 obtain ⟨hh,g,d,t,os'⟩:=s'
 obtain rfl:os'=s.os:=os
 exact ⟨v,H',I.call (h':=hh) (g':=g) (d':=d) (t':=t) (ch:=[]) un hok bare (fun b z=>absurd z (by simp)),r,q⟩
end
def znE (sp:Sp) (dvs:List V) (E:XK) (t:TA):TE:=fun σ H Q=>t σ H fun vs H1=>sp (vs++dvs) H1 Q E
def tMeth (C:Addr) (m:Str) (sp:Sp) (dvs:List V) (E:XK) (ta:TE) (t:TA):TE:=fun σ H Q=>ta σ H fun x H1=>∃ a dx fs,x=.ref a/\H1 a=some (.ins C dx fs)/\fs.lookup m=none /\
 t σ H1 fun vs H2=>sp (x::(vs++dvs)) H2 Q E
def zpo (C:Addr) (sp:Sp) (dvs:List V) (E:XK) (t:TA):TE:=fun σ H Q=>t σ H fun vs H1=>∀ x dx,H1 x=none->H1 dx=none->dx≠x ->
 sp (.ref x::(vs++dvs)) (upd (upd H1 dx (.own x)) x (.ins C dx [])) (fun v H2=>v=.non/\Q (.ref x) H2) E
def zc5 (K:PySem.W.Frag) (fd:FuncData) (ps:List Str) (ds:List Value):Prop :=
 ∀ (s:Shared) (us:List Value),K.In s.heap->(us++ds).length=ps.length->BindsTo s fd ⟨us,[]⟩ (ps.zip (us++ds))
theorem zc5.all {K:PySem.W.Frag} {fd:FuncData} {ps:List Str} (h:∀ us:List Value,us.length=ps.length->bindArgs fd ⟨us,[]⟩=pure (ps.zip us)):zc5 K fd ps []:=fun s us _ hl=>by
 rw [List.append_nil] at hl ⊢
 exact .of_eq (h us hl)
def zd9 (CX:CXT) (X:Cx) (E:XK):Prop:=∀ (pins:List (Addr×Obj)) (σ:St) (H:Hp) (s:Shared) (e:Value) (s':Shared),Inv X pins σ H s->CX X.stack H s E e s'->X.xe e s'
section
variable {X : Cx} {CX : CXT} {k : Nat} {f C : Addr} {fd : FuncData} {ps : List Str} {sp : Sp} {dvs : List V} {ds : List Value} {E : XK} {x m : Str} {p pos apos : Pos} {e o : Expr} {es : List Expr} {ta : TE} {t : TA}
theorem zm6 {pins:List (Addr×Obj)} {σ:St} {H:Hp} {s:Shared} {Q:VK} {us:List Value} {vs:List V} (F:FnOk X.prog X.w X.K X.mg X.base CX k f fd ps sp) (hr:Room k X.A) (hb:zc5 X.K fd ps ds) (hd:Vals dvs ds) (hx:zd9 CX X E)
  (I:Inv X pins σ H s) (r:Vals vs us) (h:sp (vs++dvs) H Q E):wpAny (model X.prog X.w) X.A (call (.ref f) us) (EP X pins σ Q) X.xe s:=by
 have r2:Vals (vs++dvs) (us++ds):=r.append hd
 have hl:(us++ds).length=ps.length:=by rw [← r2.length];exact F.len _ _ _ _ h
 refine wpAny_call (codeAny_mono (F.run X.A X.stack s H ⟨us,[]⟩ (us++ds) (vs++dvs) Q E hr I.env0 (hb s us I.kIn hl) r2 h) fun r s' hq=>?_)
 cases r with
 |error e=>exact hx pins σ H s e s' I hq
 |ok fl =>
  cases fl with
  |ret u=>exact I.after hq
  |next=>exact False.elim hq
  |brk=>exact False.elim hq
  |cont=>exact False.elim hq
theorem zn6 (F:FnOk X.prog X.w X.K X.mg X.base CX k f fd ps sp) (hr:Room k X.A) (hg:Gl X x) (hm:X.mg x=some (.ref f)) (hk:PySem.W.keepIn X.K (.ref f)=true) (hb:zc5 X.K fd ps ds) (hd:Vals dvs ds) (hx:zd9 CX X E)
  (ha:PA X (e::es) t) (hdb:(x==("__debug__" : Str))=false:=by decide) (he:starEach (e::es) X.env=(false,eval e X.env)::starEach es X.env:=by rfl) (hpl:(backTo pos (starEach es X.env)).any (·.1)=false:=by rfl) :
  PE X (.Call (.Name x p) (e::es) [] pos) (znE sp dvs E t):=by
 intro pins s σ H Q I h
 refine wpAny_Call_Name_kw (zfB I hg hm ?_ hdb)
 refine PySem.W.callWith_K (h₀:=X.base) I.ok.mod.kin hk (thn (ha pos pins s σ H _ I h) fun us s1 ⟨vs,H1,I1,r,q⟩=>⟨I1.kIn,?_⟩) he hpl
 exact zm6 F hr hb hd hx I1 r q
theorem zl3 (F:FnOk X.prog X.w X.K X.mg X.base CX k f fd ps sp) (hr:Room k X.A) (hg:Gl X x) (hm:X.mg x=some (.ref f)) (hk:PySem.W.keepIn X.K (.ref f)=true) (hb:zc5 X.K fd ps ds) (hd:Vals dvs ds) (hx:zd9 CX X E)
  (hdb:(x==("__debug__" : Str))=false:=by decide):PE X (.Call (.Name x p) [] [] pos) (znE sp dvs E tNil):=by
 intro pins s σ H Q I h
 refine wpAny_Call_Name_kw (zfB I hg hm ?_ hdb)
 exact PySem.W.callWith_K0 I.kIn hk (zm6 (us:=[]) F hr hb hd hx I .nil h)
structure Mk (K:PySem.W.Frag) (C f:Addr):Prop where
 makes:PySem.W.makesIn K C=true
 init:PySem.W.findIn K (.ref C) "__init__" = some (some (.ref f))
 fn:PySem.W.isFn K (.ref f)=true
 kp:PySem.W.keepIn K (.ref C)=true
theorem zim {pins:List (Addr×Obj)} {σ:St} {H:Hp} {s:Shared} {Q:VK} {us:List Value} {vs:List V} (M:Mk X.K C f) (F:FnOk X.prog X.w X.K X.mg X.base CX k f fd ps sp) (hr:Room (k+1) X.A) (hb:zc5 X.K fd ps ds) (hd:Vals dvs ds)
  (hx:zd9 CX X E) (I:Inv X pins σ H s) (r:Vals vs us)
  (h:∀ x dx,H x=none->H dx=none->dx≠x->sp (.ref x::(vs++dvs)) (upd (upd H dx (.own x)) x (.ins C dx [])) (fun v H2=>v=.non/\Q (.ref x) H2) E) :
  wpAny (model X.prog X.w) X.A (call (.ref C) us) (EP X pins σ Q) X.xe s:=by
 have hq:=h (s.heap.objs.size+1) s.heap.objs.size (I.hok.fresh (Nat.le_succ _)) (I.hok.fresh (Nat.le_refl _)) (Nat.ne_of_lt (Nat.lt_succ_self _))
 have I2:=Inv.made (C:=C) I
 have r2:Vals (V.ref (s.heap.objs.size+1)::(vs++dvs)) (Value.ref (s.heap.objs.size+1)::(us++ds)):=.cons rfl (r.append hd)
 have hl:(Value.ref (s.heap.objs.size+1)::us++ds).length=ps.length:=by
  have e:=r2.length
  rw [F.len _ _ _ _ hq] at e
  exact e.symm
 refine wpAny_call (zmc (f:=f) I.kIn M.makes M.init (beq_iff_eq.mp M.fn) (codeAny_mono (F.run _ X.stack _ _ ⟨Value.ref (s.heap.objs.size+1)::us,[]⟩ (Value.ref (s.heap.objs.size+1)::(us++ds)) _ _ E (hr.make C us [])
  (I2.env0.make C us []) (hb _ (Value.ref (s.heap.objs.size+1)::us) I2.kIn hl) r2 hq) fun r s' hq'=>?_))
 cases r with
 |error e=>exact hx pins σ _ _ e s' I2 hq'
 |ok fl =>
  cases fl with
  |ret u =>
   obtain ⟨v,H',I3,rv,ev,q3⟩:=I2.after hq'
   subst ev
   exact ⟨rv,⟨V.ref (s.heap.objs.size+1),H',I3,rfl,q3⟩⟩
  |next=>exact False.elim hq'
  |brk=>exact False.elim hq'
  |cont=>exact False.elim hq'
theorem zn3 (M:Mk X.K C f) (F:FnOk X.prog X.w X.K X.mg X.base CX k f fd ps sp) (hr:Room (k+1) X.A) (hg:Gl X x) (hm:X.mg x=some (.ref C)) (hb:zc5 X.K fd ps ds) (hd:Vals dvs ds) (hx:zd9 CX X E)
  (ha:PA X (e::es) t) (hdb:(x==("__debug__" : Str))=false:=by decide) (he:starEach (e::es) X.env=(false,eval e X.env)::starEach es X.env:=by rfl) (hpl:(backTo pos (starEach es X.env)).any (·.1)=false:=by rfl) :
  PE X (.Call (.Name x p) (e::es) [] pos) (zpo C sp dvs E t):=by
 intro pins s σ H Q I h
 refine wpAny_Call_Name_kw (zfB I hg hm ?_ hdb)
 refine PySem.W.callWith_K (h₀:=X.base) I.ok.mod.kin M.kp (thn (ha pos pins s σ H _ I h) fun us s1 ⟨vs,H1,I1,r,q⟩=>⟨I1.kIn,?_⟩) he hpl
 exact zim M F hr hb hd hx I1 r q
theorem zlZ (M:Mk X.K C f) (F:FnOk X.prog X.w X.K X.mg X.base CX k f fd ps sp) (hr:Room (k+1) X.A) (hg:Gl X x) (hm:X.mg x=some (.ref C)) (hb:zc5 X.K fd ps ds) (hd:Vals dvs ds) (hx:zd9 CX X E)
  (hdb:(x==("__debug__" : Str))=false:=by decide):PE X (.Call (.Name x p) [] [] pos) (zpo C sp dvs E tNil):=by
 intro pins s σ H Q I h
 refine wpAny_Call_Name_kw (zfB I hg hm ?_ hdb)
 exact PySem.W.callWith_K0 I.kIn M.kp (zim (us:=[]) M F hr hb hd hx I .nil h)
end
def PK (X:Cx) (kws:List Keyword) (t:TA):Prop :=
 ∀ (pos:Pos) (pins:List (Addr×Obj)) (s:Shared) (σ:St) (H:Hp) (Q:List V->Hp->Prop),Inv X pins σ H s->t σ H Q->wpAny (model X.prog X.w) X.A (evalAll ((backToKw pos (keywordEach kws X.env)).map (·.2))) (AP X pins σ Q) X.xe s
section
variable {X : Cx} {CX : CXT} {k : Nat} {f C : Addr} {fd : FuncData} {ps ks : List Str} {sp : Sp} {E : XK} {x m : Str} {p pos apos kpos : Pos} {e o : Expr} {es : List Expr} {kws : List Keyword} {te ta : TE} {t tk : TA} {nm : Option Str}
structure KBinds (K:PySem.W.Frag) (fd:FuncData) (ps ks:List Str) (g:List Value->List Value->List Value) (gV:List V->List V->List V):Prop where
 to:∀ (s:Shared) (us ws:List Value),K.In s.heap->(g us ws).length=ps.length->BindsTo s fd ⟨us,ks.zip ws⟩ (ps.zip (g us ws))
 rel:∀ {vs:List V} {us:List Value} {zs:List V} {ws:List Value},Vals vs us->Vals zs ws->Vals (gV vs zs) (g us ws)
def tCallK (sp:Sp) (gV:List V->List V->List V) (E:XK) (t tk:TA):TE:=fun σ H Q=>t σ H fun vs H1=>tk σ H1 fun zs H2=>sp (gV vs zs) H2 Q E
variable {g : List Value → List Value → List Value} {gV : List V → List V → List V}
end
structure FnScope (N P:List Str) (sc:Scope):Prop where
 kind:sc.kind=.function
 co:sc.isCoroutine=false
 gen:sc.isGenerator=false
 nd:N.Nodup
 pre:N.take P.length=P
 par:∀ x∈P,sc.names.lookup x=some .local\/sc.names.lookup x=some .cell
 nofree:∀ y∈sc.names,y.2≠.free
theorem zg3 {kindOf:Str->Option NameKind} {x:Str}:∀ {binds:List (Str×Value)} {m:Str->Option Value},(∀ v,(x,v)∉binds)->bindL kindOf binds m x=m x
 | [],_,_=>rfl
 | (n,v)::r,m,h=>by
  unfold bindL
  rw [zg3 fun w hw=>h w (List.mem_cons_of_mem _ hw)]
  split
  .have:x≠n:=by rintro rfl;exact h v List.mem_cons_self
   simp [this]
  .rfl
theorem zg5 {kindOf:Str->Option NameKind} {x:Str}:∀ {binds:List (Str×Value)} {m:Str->Option Value},(∀ v,(x,v)∉binds)->bindC kindOf binds m x=m x
 | [],_,_=>rfl
 | (n,v)::r,m,h=>by
  unfold bindC
  rw [zg5 fun w hw=>h w (List.mem_cons_of_mem _ hw)]
  split
  .rfl
  .have:x≠n:=by rintro rfl;exact h v List.mem_cons_self
   simp [this]
theorem zg4 {kindOf:Str->Option NameKind} {x:Str} {v:Value}:∀ {P:List Str} {vs:List Value} {i:Nat} {m:Str->Option Value},P.Nodup->P[i]?=some x->vs[i]?=some v->kindOf x=some .local ->
  bindL kindOf (P.zip vs) m x=some v
 | [],_,_,_,_,h,_,_=>by simp at h
 |_::_,[],_,_,_,_,h,_=>by simp at h
 |p::P,w::vs,0,m,nd,h1,h2,hk=>by
  simp at h1 h2;subst h1;subst h2
  show bindL kindOf ((p,w)::P.zip vs) m p=_
  unfold bindL
  rw [zg3 fun v hv=>(List.nodup_cons.mp nd).1 (List.of_mem_zip hv).1,if_pos hk]
  simp
 |p::P,w::vs,i+1,m,nd,h1,h2,hk=>by
  show bindL kindOf ((p,w)::P.zip vs) m x=_
  unfold bindL
  exact zg4 (i:=i) (List.nodup_cons.mp nd).2 (by simpa using h1) (by simpa using h2) hk
theorem zg6 {kindOf:Str->Option NameKind} {x:Str} {v:Value}:∀ {P:List Str} {vs:List Value} {i:Nat} {m:Str->Option Value},P.Nodup->P[i]?=some x->vs[i]?=some v->kindOf x≠some .local ->
  bindC kindOf (P.zip vs) m x=some v
 | [],_,_,_,_,h,_,_=>by simp at h
 |_::_,[],_,_,_,_,h,_=>by simp at h
 |p::P,w::vs,0,m,nd,h1,h2,hk=>by
  simp at h1 h2;subst h1;subst h2
  show bindC kindOf ((p,w)::P.zip vs) m p=_
  unfold bindC
  rw [zg5 fun v hv=>(List.nodup_cons.mp nd).1 (List.of_mem_zip hv).1,if_neg hk]
  simp
 |p::P,w::vs,i+1,m,nd,h1,h2,hk=>by
  show bindC kindOf ((p,w)::P.zip vs) m x=_
  unfold bindC
  exact zg6 (i:=i) (List.nodup_cons.mp nd).2 (by simpa using h1) (by simpa using h2) hk
def start (N:List Str) (vs:List V):St:=vs.map some++List.replicate (N.length - vs.length) none
def cxOf (CX:CXT) (P:Program) (w:World) (K:PySem.W.Frag) (mg:Str->Option Value) (base:Heap) (N:List Str) (qual:Str) (scope:Scope) (f:Addr) (cd:Value) (A:Around) (outer:List Env) (s:Shared) (H:Hp) (E:XK):Cx where
 prog:=P
 w:=w
 K:=K
 mg:=mg
 base:=base
 A:=A.deeper (envOfC qual scope s.heap.objs.size f cd)
 N:=N
 s₀:=s
 H₀:=H
 env:=envOfC qual scope s.heap.objs.size f cd
 outer:=outer
 stack:=envOfC qual scope s.heap.objs.size f cd::outer
 ex:=[]
 calm:=true
 fn:=fun _=>true
 pn:=[]
 xe:=fun e s'=>wpAny (model P w) (A.deeper (envOfC qual scope s.heap.objs.size f cd)) (leaving (envOfC qual scope s.heap.objs.size f cd) e) (fun _ s''=>CX outer H s E e s'') (fun e' s''=>CX outer H s E e' s'') s'
theorem ziN {sc:Scope} {n:Nat} {x:Str} (h:sc.names.lookup x=some .cell):∃ c,(cellsFrom n sc.names []).lookup x=some c:=by
 have q:=PySem.W.cellsFrom_some sc.names n [] (.inl h)
 exact Option.isSome_iff_exists.mp q
theorem zkH {CX:CXT} {P:Program} {w:World} {K:PySem.W.Frag} {mg:Str->Option Value} {base:Heap} {N ps:List Str} {qual:Str} {scope:Scope} {f:Addr} {cd:Value} {A:Around} {outer:List Env} {s s1:Shared} {H:Hp} {E:XK} {us:List Value} {vs:List V}
  (S:FnScope N ps scope) (hd:A.handled=none) (e0:Env0 P w K mg base A outer s H) (hl:vs.length=ps.length) (r:Vals vs us)
  (x:InCallC s s.heap.objs.size (bindL (envOfC qual scope s.heap.objs.size f cd).kindOf (ps.zip us) fun _=>none) (cellsFrom (s.heap.objs.size+1) scope.names []) (bindC (envOfC qual scope s.heap.objs.size f cd).kindOf (ps.zip us) fun _=>none) s1) :
  Inv (cxOf CX P w K mg base N qual scope f cd A outer s H E) [] (start N vs) H s1:=by
 have hpl:ps.length<=N.length:=by have:=congrArg List.length S.pre;rw [List.length_take] at this;omega
 obtain ⟨h1,tk,rfl,hk⟩:=x.done
 have noA:∀ b:Addr,b∉(cxOf CX P w K mg base N qual scope f cd A outer s H E).ex:=fun b z=>absurd (show b∈([]:List Addr) from z) (by simp)
 refine ⟨⟨e0.mod,S.kind,rfl,rfl,Nat.le_refl _,fun y z c h1 h2=>?_,fun y hy=>?_,fun y c _ h=>?_,fun _=>hd,Around.frames_deeper e0.frames,.inr ⟨rfl,rfl⟩,fun b z=>absurd z (noA b),e0.bs,e0.bsz,fun b _ _=>noA b,fun b z=>absurd z (noA b),e0.funs,e0.frf⟩,
  rfl,e0.bare,Un.kept hk,⟨_,x.toInCall.ns,fun i y v h1 h2 h3=>?_⟩,fun y c h=>⟨_,x.cell y c h⟩,e0.hok.fresh (Nat.le_refl _),fun y c h=>?_,fun p hp=>absurd (show p∈([]:List (Addr×Obj)) from hp) (by simp),e0.hok.kept hk,?_⟩
 .exact name_of_addr x.apart (PySem.mem_of_lookup h1) (PySem.mem_of_lookup h2)
 .have hy:scope.names.lookup y=some .cell\/scope.names.lookup y=some .free:=hy
  rcases hy with hy | hy
  .exact ziN hy
  .exact absurd rfl (S.nofree _ (PySem.mem_of_lookup hy))
 .exact Nat.le_of_lt (x.above y c (PySem.mem_of_lookup h))
 .have hi:i<vs.length:=by
   unfold start at h2
   by_cases hi:i<vs.length
   .exact hi
   .rw [List.getElem?_append_right (by simpa using hi)] at h2
    rw [List.getElem?_replicate] at h2
    split at h2 <;> cases h2
  have ha:vs[i]?=some v:=by
   unfold start at h2
   rw [List.getElem?_append_left (by simpa using hi),List.getElem?_map] at h2
   cases e:vs[i]? with
   |none=>rw [e] at h2;cases h2
   |some a=>rw [e] at h2;cases h2;rfl
  obtain ⟨u,hu,rv⟩:=r.get ha
  have hp:ps[i]?=some y:=by
   rw [← S.pre,List.getElem?_take_of_lt (by omega)];exact h1
  have ndP:ps.Nodup:=by rw [← S.pre];exact S.nd.sublist (List.take_sublist _ _)
  refine ⟨u,rv,?_⟩
  rcases S.par y (List.mem_of_getElem? hp) with k | k
  .exact .inl ⟨k,zg4 ndP hp hu k⟩
  .obtain ⟨c,e⟩:=ziN (n:=s.heap.objs.size+1) k
   refine .inr ⟨.inl k,c,e,?_⟩
   have q:=x.cell y c e
   rw [zg6 ndP hp hu (by show scope.names.lookup y≠_;rw [k];decide)] at q
   exact q
 .exact e0.hok.fresh (Nat.le_of_lt (x.above y c (PySem.mem_of_lookup h)))
 .unfold start
  show _=N.length
  rw [List.length_append,List.length_map,List.length_replicate]
  omega
theorem fn_of {CX:CXT} {P:Program} {w:World} {K:PySem.W.Frag} {mg:Str->Option Value} {base:Heap} {k:Nat} {f:Addr} {name qual:Str} {params:Arguments} {body:List Stmt} {scope:Scope} {dV kV doc pm cdv ct oc:Value} {an od:Option Addr}
  {osl:Array (Option Value)} {N ps:List Str} {sp:Sp} (lk:K.lookup f=some ⟨oc,od,.func (PySem.W.fnOf name qual params body scope dV kV doc pm an cdv ct),osl⟩) (hcd:PySem.W.codeIn K cdv qual=true) (S:FnScope N ps scope)
  (len:∀ vs H Q E,sp vs H Q E->vs.length=ps.length)
  (hbody:∀ (A:Around) (outer:List Env) (s:Shared) (H:Hp) (vs:List V) (Q:VK) (E:XK),Room k (A.deeper (envOfC qual scope s.heap.objs.size f cdv))->sp vs H Q E ->
   ∃ t,PSs (cxOf CX P w K mg base N qual scope f cdv A outer s H E) body t/\t { nx:=fun _ H'=>Q .non H',rt:=Q } (start N vs) H) :
  FnOk P w K mg base CX (k+1) f (PySem.W.fnOf name qual params body scope dV kV doc pm an cdv ct) ps sp:=by
 refine ⟨len,fun A outer s H args us vs Q E hr e0 hb r hsp=>?_⟩
 have hl:=len _ _ _ _ hsp
 have KX:K.In s.heap:=e0.mod.kin.keeps fun b o e=>(e0.bs b o e).1
 have lim:s.heap.NoLimit:=e0.mod.nolimit.keeps fun b o e=>(e0.bs b o e).1
 have hkind:∀ y∈ps.zip us,scope.names.lookup y.1=some .local\/(scope.names.lookup y.1=some .cell/\((cellsFrom (s.heap.objs.size+1) scope.names []).lookup y.1).isSome=true):=fun ⟨n,v⟩ hy=>by
  rcases S.par n (List.of_mem_zip hy).1 with q | q
  .exact .inl q
  .exact .inr ⟨q,PySem.W.cellsFrom_some _ _ _ (.inl q)⟩
 refine codeAny_call_function hr.depth (KX _ _ lk) rfl S.co S.gen rfl (PySem.W.codeRec_of KX hcd) (hb _ _ _ _ ?_)
 refine wpAny_newFunctionEnv_cells S.kind hkind fun env he s1 x=>?_
 subst he
 refine ⟨lim.keeps x.toInCall.keep,codeAny_func ?_⟩
 obtain ⟨t,ht,hq⟩:=hbody A outer s H vs Q E (hr.deeper _) hsp
 have I:Inv (cxOf CX P w K mg base N qual scope f cdv A outer s H E) [] (start N vs) H s1:=zkH S hr.hd e0 hl r x
 refine wpAny_mono (ht [] s1 (start N vs) H _ I hq) (fun fl s' hs=>?_) fun e s' hs=>hs
 have fin:∀ {σ':St} {H':Hp} {v:V} {u:Value},Inv (cxOf CX P w K mg base N qual scope f cdv A outer s H E) [] σ' H' s'->RelV v u->Q v H'->CE outer P w H s Q u s' :=
  fun {σ' H' v u} J rv q=>⟨v,H',J.os,J.bare,J.base,J.hok,rv,q⟩
 cases fl with
 |ret u =>
  obtain ⟨v,σ',H',J,rv,q⟩:=hs
  exact fin J rv q
 |next =>
  obtain ⟨σ',H',J,q⟩:=hs
  exact fin (v:=V.non) (u:=Value.none) J rfl q
 |brk =>
  obtain ⟨_,_,_,q⟩:=hs
  exact False.elim q
 |cont =>
  obtain ⟨_,_,_,q⟩:=hs
  exact False.elim q
end L2
namespace L2
open PySem PySem.Spec PyProof.Rows
section
variable {X : Cx} {x : Str} {p pos : Pos} {e : Expr} {es : List Expr} {t : TA} {id T : String} {r : List V → Hp → VK → Prop}
def tCB (r:List V->Hp->VK->Prop) (t:TA):TE:=fun σ H Q=>t σ H fun vs H1=>r vs H1 Q
theorem zl2 (hc:zbV X (.builtin id) r) (hg:Gl X x) (hm:X.mg x=none) (hv:bootBuiltins x=some (.builtin id)) (ha:PA X (e::es) t) (hn:x ≠ "__name__" := by decide) (hdb:(x==("__debug__" : Str))=false:=by decide)
  (he:starEach (e::es) X.env=(false,eval e X.env)::starEach es X.env:=by rfl) (hpl:(backTo pos (starEach es X.env)).any (·.1)=false:=by rfl):PE X (.Call (.Name x p) (e::es) [] pos) (tCB r t):=by
 intro pins s σ H Q I h
 refine wpAny_Call_Name_kw (zd0 I hg hm hv ?_ hn hdb)
 exact PyProof.Rows.callWith_builtin1 (thn (ha pos pins s σ H _ I h) fun us s1 ⟨vs,H1,I1,r1,q1⟩=>hc pins s1 σ H1 vs us Q I1 r1 q1) he hpl
theorem zkd (hc:zbV X (.type T) r) (hg:Gl X x) (hm:X.mg x=none) (hv:bootBuiltins x=some (.type T)) (ha:PA X (e::es) t) (hn:x ≠ "__name__" := by decide) (hdb:(x==("__debug__" : Str))=false:=by decide)
  (he:starEach (e::es) X.env=(false,eval e X.env)::starEach es X.env:=by rfl) (hpl:(backTo pos (starEach es X.env)).any (·.1)=false:=by rfl):PE X (.Call (.Name x p) (e::es) [] pos) (tCB r t):=by
 intro pins s σ H Q I h
 refine wpAny_Call_Name_kw (zd0 I hg hm hv ?_ hn hdb)
 exact PyProof.Rows.callWith_type1 (thn (ha pos pins s σ H _ I h) fun us s1 ⟨vs,H1,I1,r1,q1⟩=>hc pins s1 σ H1 vs us Q I1 r1 q1) he hpl
end
end L2
namespace HT
open PySem PyProof.Rows
def zqm:List Int->List Int->Bool
 | [],[]=>false
 | [],_::_=>true
 |_::_,[]=>false
 |x::xs,y::ys=>if x=y then zqm xs ys else decide (x<y)
section
open PySem.SeqAt
open PySem.AutoSeq1 (wpAny_loadPart')
open PySem.MeetsSeq PySem.MeetsSeq2 PySem.MeetsSeq3
end
section
variable {prog : Program} {w : World} {A : Around} {E : Value → Shared → Prop} {s : Shared}
theorem zo1 {t b:Addr} {vs ws:List Value} {Q:Value->Shared->Prop} (ht:IsTup s.heap t vs.toArray) (hb:IsTup s.heap b ws.toArray) (hv:vs≠[])
  (h1:ws=[]->Q (.ref t) s) (h2:ws≠[]->Q (.ref s.heap.objs.size) { s with heap:=s.heap.push { cls:=.type "tuple", data:=.seq (vs++ws).toArray } })
  (hsz:vs.length+ws.length<=sizeLine):wpAny (model prog w) A (binaryOp .Add (.ref t) (.ref b)) Q E s:=by
 obtain ⟨⟨cls,dd,data,sl⟩,ho,hc,n,hd⟩:=id ht
 obtain ⟨⟨cls2,dd2,data2,sl2⟩,ho2,hc2,n2,hd2⟩:=id hb
 simp only at hc hd hc2 hd2
 subst hc hd hc2 hd2
 have e:vs.toArray++ws.toArray=(vs++ws).toArray:=by simp
 by_cases hw:ws=[]
 .exact concat_meets ⟨_,ho,rfl⟩ ⟨_,ho2,rfl⟩ noFill_tuple_add seq_tuple_add PySem.F.slot_tuple_add PySem.F.entry_tuple_add (PySem.F.args_tuple_add_2 _ _)
   (tuple_addW1 t b vs.toArray ws.toArray n n2 dd dd2 sl sl2 (by simpa using hv) (by simp [hw])) ⟨ho,ho2,h1 hw⟩
 .refine concat_meets ⟨_,ho,rfl⟩ ⟨_,ho2,rfl⟩ noFill_tuple_add seq_tuple_add PySem.F.slot_tuple_add PySem.F.entry_tuple_add (PySem.F.args_tuple_add_2 _ _)
   (tuple_addW2 t b vs.toArray ws.toArray n n2 dd dd2 sl sl2 (by simpa using hv) (by simpa using hw) (by rw [List.size_toArray,List.size_toArray];exact hsz)) ⟨ho,ho2,?_⟩
  rw [e]
  exact h2 hw
def sIx (n d:Nat):Option Int->Nat
 |none=>d
 |some v=>if v<0 then (v+(n:Int)).toNat else min v.toNat n
theorem zil (n d:Nat):sIx n d none=d:=rfl
theorem zj0 (n d k:Nat):sIx n d (some (k:Int))=min k n:=by
 show (if (k:Int)<0 then ((k:Int)+(n:Int)).toNat else min (k:Int).toNat n)=min k n
 rw [if_neg (by omega),Int.toNat_natCast]
theorem zpE (n d:Nat) (hd:d<=n) (o:Option Int):sIx n d o<=n:=by
 cases o with
 |none=>exact hd
 |some v =>
  show (if v<0 then (v+(n:Int)).toNat else min v.toNat n)<=n
  by_cases hv:v<0
  .rw [if_pos hv];omega
  .rw [if_neg hv];exact Nat.min_le_right _ _
theorem zk1 (v:Int) (n d:Nat):(if v<0 then max (v+(n:Int)) 0 else min v (n:Int))=((sIx n d (some v):Nat):Int):=by
 show (if v<0 then max (v+(n:Int)) 0 else min v (n:Int))=(((if v<0 then (v+(n:Int)).toNat else min v.toNat n):Nat):Int)
 by_cases hv:v<0
 .simp only [if_pos hv];omega
 .simp only [if_neg hv];omega
theorem zju (lo hi:Option Int) (n:Nat):Builtin.Slice.sliceAdjust lo hi 1 (n:Int)=(((sIx n 0 lo:Nat):Int),((sIx n n hi:Nat):Int)):=by
 have h1:¬ ((1:Int)<0):=by omega
 unfold Builtin.Slice.sliceAdjust
 simp only [h1,if_false]
 refine Prod.ext ?_ ?_
 .cases lo with
  |none=>rfl
  |some v=>exact zk1 v n 0
 .cases hi with
  |none=>rfl
  |some v=>exact zk1 v n n
theorem zi7 (i j:Nat):Builtin.Slice.slicePlaces (i:Int) (j:Int) 1=j - i:=by
 unfold Builtin.Slice.slicePlaces
 have h1:(1:Int) > 0:=by omega
 simp only [h1,if_true,Int.ediv_one]
 split <;> omega
theorem zew {v:Value} {o:Option Int} {Q:Option Int->Shared->Prop} (p:IsPart v o) (h:Q o s):wpAny (model prog w) A (Builtin.Slice.slicePartIndex v) Q E s:=by
 cases p with
 |none=>exact slicePart_none h
 |int i t=>exact slicePart_int h
theorem zbY {sl:Addr} {vl vu:Value} {lo hi:Option Int} {n:Nat} {Q:Int×Int×Nat->Shared->Prop} (hs:s.heap.IsSliceOf sl vl vu .none) (pl:IsPart vl lo) (pu:IsPart vu hi)
  (h:Q (((sIx n 0 lo:Nat):Int),1,sIx n n hi - sIx n 0 lo) s):wpAny (model prog w) A (Builtin.Slice.sliceApplied (.ref sl) (pure (n:Int))) Q E s:=by
 obtain ⟨os,hos,hcs,hds⟩:=id hs
 unfold Builtin.Slice.sliceApplied Builtin.Slice.sliceFields
 refine wpAny_bind (wpAny_bind (wpAny_field hos hds (x:=vl) rfl (wpAny_bind (wpAny_field hos hds (x:=vu) rfl (wpAny_bind (wpAny_field hos hds (x:=.none) rfl (wpAny_pure ?_)))))))
 refine wpAny_bind (slicePart_none ?_)
 show wpAny _ _ (if ((1:Int)==0)=true then _ else _) _ _ s
 rw [if_neg (by decide)]
 refine wpAny_bind (zew pl (wpAny_bind (zew pu (wpAny_bind (wpAny_pure ?_)))))
 show wpAny _ _ (match Builtin.Slice.sliceAdjust lo hi 1 (n:Int) with | (lo,hi)=>pure (lo,(1:Int),Builtin.Slice.slicePlaces lo hi 1)) _ _ s
 rw [zju lo hi n]
 show wpAny _ _ (pure (((sIx n 0 lo:Nat):Int),(1:Int),Builtin.Slice.slicePlaces ((sIx n 0 lo:Nat):Int) ((sIx n n hi:Nat):Int) 1)) _ _ s
 rw [zi7]
 exact wpAny_pure h
theorem zlV (xs:Array Value) (i k:Nat):((List.range k).filterMap fun (m:Nat)=>xs[((i:Int)+(m:Int) * 1).toNat]?).toArray=((xs.toList.drop i).take k).toArray:=by
 have e:(fun (m:Nat)=>xs[((i:Int)+(m:Int) * 1).toNat]?)=fun m=>xs[i+m]?:=by
  funext m
  have:((i:Int)+(m:Int) * 1).toNat=i+m:=by omega
  rw [this]
 rw [e]
 have:=pick_run xs i k
 rw [List.filterMap_map] at this
 have e2:((fun x=>xs[x]?) ∘ fun x=>i+x)=fun m=>xs[i+m]?:=rfl
 rw [e2] at this
 rw [this]
theorem zdg {t sl:Addr} {items:Array Value} {vl vu:Value} {lo hi:Option Int} {Q:Value->Shared->Prop} (ht:IsTup s.heap t items) (hs:s.heap.IsSliceOf sl vl vu .none) (pl:IsPart vl lo) (pu:IsPart vu hi)
  (hw:¬ (sIx items.size 0 lo=0/\sIx items.size items.size hi=items.size))
  (h:Q (.ref s.heap.objs.size) { s with heap:=s.heap.push { cls:=.type "tuple", data:=.seq ((items.toList.drop (sIx items.size 0 lo)).take (sIx items.size items.size hi - sIx items.size 0 lo)).toArray } })
  (hsz:items.size<=sizeLine):wpAny (model prog w) A (getItem (.ref t) (.ref sl)) Q E s:=by
 have htake:sizeOk (.seq ((items.toList.drop (sIx items.size 0 lo)).take (sIx items.size items.size hi - sIx items.size 0 lo)).toArray):=by
  show ((items.toList.drop (sIx items.size 0 lo)).take (sIx items.size items.size hi - sIx items.size 0 lo)).toArray.size<=sizeLine
  rw [List.size_toArray,List.length_take,List.length_drop,Array.length_toList]
  omega
 have hj:sIx items.size items.size hi<=items.size:=zpE _ _ (Nat.le_refl _) hi
 obtain ⟨os,hos,hcs,hds⟩:=id hs
 have hTs:s.TypeIs (.ref sl) "slice" := ⟨os,hos,hcs⟩
 unfold getItem
 try with_reducible refine wpAny_holding ?_
 first | refine wpAny_bind (wpAny_pure ?_) | skip
 refine wpAny_bind (wpAny_sequenceKey ht.typeIs (by decide) ?_)
 refine wpAny_bind (wpAny_callSpecial?_slot (name:=Str.ofString "__getitem__") ht.typeIs PyProof.Rows.slot_tuple_getitem
  (wpAny_call_entry PyProof.Rows.slot_tuple_getitem ht.typeIs entry_tuple_getitem ?_ (args_tuple_getitem _ _)))
 show wpAny _ _ (Builtin.Tuple.tupleItemsOf (.ref t) >>= _) _ _ s
 refine wpAny_bind (tupleItemsOf_ ht ?_)
 refine wpAny_bind (wpAny_typeOf hTs ?_)
 rw [if_pos (by decide)]
 refine wpAny_bind (zbY hs pl pu ?_)
 have hno:¬ ((((sIx items.size 0 lo:Nat):Int)==0&&(1:Int)==1&&(sIx items.size items.size hi - sIx items.size 0 lo)==items.size)=true):=by
  intro q
  rw [Bool.and_eq_true,Bool.and_eq_true] at q
  have q1:((sIx items.size 0 lo:Nat):Int)=0:=eq_of_beq q.1.1
  have q2:sIx items.size items.size hi - sIx items.size 0 lo=items.size:=eq_of_beq q.2
  exact hw ⟨by omega,by omega⟩
 show wpAny _ _ (if (((sIx items.size 0 lo:Nat):Int)==0&&(1:Int)==1&&(sIx items.size items.size hi - sIx items.size 0 lo)==items.size)=true then _ else _) _ _ s
 rw [if_neg hno,zlV]
 first
  |exact wpAny_bind (m:=Builtin.Tuple.tupleExact _) (wpAny_newObj_type (wpAny_pure ⟨_,rfl,wpAny_pure h⟩) htake)
  |exact wpAny_bind (m:=Builtin.Tuple.tupleExact _) (wpAny_newObj_type (wpAny_bind (wpAny_pure (wpAny_pure ⟨_,rfl,wpAny_pure h⟩))) htake)
  |exact wpAny_bind (wpAny_bind (m:=Builtin.Tuple.tupleExact _) (wpAny_newObj_type (wpAny_pure (wpAny_pure ⟨_,rfl,wpAny_pure h⟩)) htake))
  |exact wpAny_bind (wpAny_bind (m:=Builtin.Tuple.tupleExact _) (wpAny_newObj_type (wpAny_pure ⟨_,rfl,wpAny_pure h⟩) htake))
end
end HT
namespace L2
open PySem PySem.Spec PyProof.Rows
abbrev TO:=St->Hp->(Option Int->Hp->Prop)->Prop
def PO (X:Cx) (e:Option Expr) (t:TO):Prop :=
 ∀ (pins:List (Addr×Obj)) (s:Shared) (σ:St) (H:Hp) (Q:Option Int->Hp->Prop),Inv X pins σ H s->t σ H Q ->
  wpAny (model X.prog X.w) X.A (evalPart e X.env) (fun u s'=>∃ o H',Inv X pins σ H' s'/\IsPart u o/\Q o H') X.xe s
def znD:TO:=fun _ H Q=>Q none H
def tPart (t:TE):TO:=fun σ H Q=>t σ H fun x H1=>∃ i,x=.int i/\Q (some i) H1
section
variable {X : Cx} {e : Expr} {te : TE} {lo hi : Option Expr} {tl th : TO} {pos p2 : Pos}
theorem zn0:PO X none znD:=by
 intro pins s σ H Q I h
 rw [evalPart_none]
 exact wpAny_pure ⟨none,H,I,.none,h⟩
theorem znZ (h:PE X e te):PO X (some e) (tPart te):=by
 intro pins s σ H Q I hw
 rw [evalPart_some]
 refine thn (h pins s σ H _ I hw) fun u s1 ⟨x,H1,I1,r1,q1⟩=>?_
 obtain ⟨i,rfl,q⟩:=q1
 obtain ⟨t,rfl⟩:=r1
 exact ⟨some i,H1,I1,.int i t,q⟩
def SlR (X:Cx) (r:V->Option Int->Option Int->Hp->VK->Prop):Prop :=
 ∀ (pins:List (Addr×Obj)) (s:Shared) (σ:St) (H:Hp) (x:V) (v vl vu:Value) (lo hi:Option Int) (sl:Addr) (Q:VK),Inv X pins σ H s->RelV x v->s.heap.IsSliceOf sl vl vu .none->IsPart vl lo->IsPart vu hi->r x lo hi H Q ->
  ∃ T id,typeLookup (.type T) "__getitem__" = pure (some (.builtin id))/\s.TypeIs v T/\wpAny (model X.prog X.w) X.A (getItem v (.ref sl)) (EP X pins σ Q) X.xe s
def tSl (r:V->Option Int->Option Int->Hp->VK->Prop) (te:TE) (tl th:TO):TE:=fun σ H Q=>te σ H fun x H1=>tl σ H1 fun l H2=>th σ H2 fun u H3=>r x l u H3 Q
theorem zlY {r:V->Option Int->Option Int->Hp->VK->Prop} (hr:SlR X r) (he:PE X e te) (hl:PO X lo tl) (hu:PO X hi th):PE X (.Subscript e (.Slice lo hi none p2) pos) (tSl r te tl th):=by
 intro pins s σ H Q I h
 refine Subscript_ (thn (he pins s σ H _ I h) fun v s1 ⟨x,H1,I1,r1,q1⟩=>?_)
 refine wpAny_Slice (thn (hl pins s1 σ H1 _ I1 q1) fun vl s2 ⟨l,H2,I2,pl,q2⟩=>thn (hu pins s2 σ H2 _ I2 q2) fun vu s3 ⟨u,H3,I3,pu,q3⟩=>?_)
 rw [evalPart_none]
 refine wpAny_pure ?_
 have I4:Inv X pins σ H3 { s3 with heap:=s3.heap.push { cls:=.type "slice", data:=.fields #[vl,vu,.none] } }:=I3.kept (t':=s3.toks) fun b ob q=>Heap.get?_push_of_some _ q
 obtain ⟨T,id,hT,ht,hg⟩:=hr pins { s3 with heap:=s3.heap.push { cls:=.type "slice", data:=.fields #[vl,vu,.none] } } σ H3 x v vl vu l u s3.heap.objs.size Q I4 r1 (Heap.IsSliceOf.new ..) pl pu q3
 show wpAny (model X.prog X.w) X.A (subscriptTail e (.Slice lo hi none p2) v (.ref s3.heap.objs.size)) (EP X pins σ Q) X.xe { s3 with heap:=s3.heap.push { cls:=.type "slice", data:=.fields #[vl,vu,.none] } }
 exact tail_any (ops:=[.ref s3.heap.objs.size,v]) ht hT hg (by with_unfolding_all rfl)
def cutV (xs:List V) (lo hi:Option Int):List V:=(xs.drop (HT.sIx xs.length 0 lo)).take (HT.sIx xs.length xs.length hi - HT.sIx xs.length 0 lo)
theorem zd7 (xs:List V) (lo hi:Option Int):(cutV xs lo hi).length<=xs.length:=by
 unfold cutV
 rw [List.length_take,List.length_drop]
 omega
def rSlT (K:PySem.W.Frag):V->Option Int->Option Int->Hp->VK->Prop:=fun x lo hi H Q=>∃ a xs,x=.ref a/\SqT K H a xs /\
 ¬ (HT.sIx xs.length 0 lo=0/\HT.sIx xs.length xs.length hi=xs.length)/\∀ p,H p=none->Q (.ref p) (upd H p (.tup (cutV xs lo hi)))
theorem zpw:SlR X (rSlT X.K):=by
 intro pins s σ H x v vl vu lo hi sl Q I rx hs pl pu h
 obtain ⟨a,xs,rfl,hx,hw,q⟩:=h
 cases rx
 obtain ⟨its,r,ht,hz⟩:=I.tuple hx
 have hlen:its.toArray.size=xs.length:=by rw [List.size_toArray];exact r.length.symm
 refine ⟨"tuple", _,PyProof.Rows.slot_tuple_getitem.lookup,ht.typeIs,?_⟩
 refine HT.zdg ht hs pl pu (by rw [hlen];exact hw) ?_ (by rw [hlen];exact hz)
 rw [hlen]
 refine ⟨.ref s.heap.objs.size,_,I.laid (t':=s.toks) (o:=.tup (cutV xs lo hi)) (fun b ob q=>Heap.get?_push_of_some _ q) (Nat.le_refl _) ?_,rfl,q _ (I.hok.fresh (Nat.le_refl _))⟩
 exact ⟨Nat.le_trans (zd7 xs lo hi) hz,_,(r.drop (HT.sIx xs.length 0 lo)).take (HT.sIx xs.length xs.length hi - HT.sIx xs.length 0 lo),IsTup.new _ _⟩
def rLtT (K:PySem.W.Frag):R2:=fun x y H Q=>∃ a b ns ms,x=.ref a/\y=.ref b/\SqT K H a (ns.map V.int)/\SqT K H b (ms.map V.int)/\Q (.bl (HT.zqm ns ms)) H
def rCatT (K:PySem.W.Frag):R2:=fun x y H Q=>∃ a b xs ys,x=.ref a/\y=.ref b/\SqT K H a xs/\SqT K H b ys/\xs≠[]/\xs.length+ys.length<=sizeLine /\
 (ys=[]->Q (.ref a) H)/\(ys≠[]->∀ p,H p=none->Q (.ref p) (upd H p (.tup (xs++ys))))
theorem Vals.nil_iff {xs:List V} {us:List Value} (r:Vals xs us):us=[]↔xs=[]:=by
 cases r with
 |nil=>simp
 |cons _ _=>simp
theorem zob:OpR X (binaryOp .Add) (rCatT X.K):=by
 intro pins s σ H x y v u Q I rx ry h
 obtain ⟨a,b,xs,ys,rfl,rfl,ha,hb,hx,hz,q1,q2⟩:=h
 cases rx
 cases ry
 obtain ⟨its,r1,p1,_⟩:=I.tuple ha
 obtain ⟨its2,r2,p2,_⟩:=I.tuple hb
 refine HT.zo1 p1 p2 (fun z=>hx (r1.nil_iff.mp z)) (fun z=>⟨.ref a,H,I,rfl,q1 (r2.nil_iff.mp z)⟩) (fun z=>?_) (by rw [← r1.length,← r2.length];exact hz)
 refine ⟨.ref s.heap.objs.size,_,I.laid (t':=s.toks) (o:=.tup (xs++ys)) (fun b ob q=>Heap.get?_push_of_some _ q) (Nat.le_refl _) ?_,rfl,q2 (fun w=>z (r2.nil_iff.mpr w)) _ (I.hok.fresh (Nat.le_refl _))⟩
 exact ⟨by rw [List.length_append];exact hz,_,r1.append r2,IsTup.new _ _⟩
end
end L2
namespace L2
open PySem PySem.Spec PyProof.Rows
def ixN (n:Nat) (i:Int):Option Nat:=if 0<=i then (if i<n then some i.toNat else none) else if -(n:Int)<=i then some (i+n).toNat else none
def atI {α:Type} (xs:List α) (i:Int):Option α:=(ixN xs.length i).bind fun j=>xs[j]?
theorem zkG {n:Nat} {i:Int} {j:Nat} (h:ixN n i=some j):seqIndex? i n=some j/\j<n/\-(n:Int)<=i/\i<n:=by
 unfold ixN at h
 by_cases h0:0<=i
 .rw [if_pos h0] at h
  by_cases h1:i<n
  .rw [if_pos h1] at h
   have e:i.toNat=j:=Option.some.inj h
   exact ⟨by rw [seqIndex_of h0 h1,e],by omega,by omega,h1⟩
  .rw [if_neg h1] at h;cases h
 .rw [if_neg h0] at h
  by_cases h1:-(n:Int)<=i
  .rw [if_pos h1] at h
   have e:(i+n).toNat=j:=Option.some.inj h
   exact ⟨by rw [seqIndex_neg (by omega) h1,e],by omega,h1,by omega⟩
  .rw [if_neg h1] at h;cases h
theorem zhW {α:Type} {xs:List α} {i:Int} {v:α} (h:atI xs i=some v):∃ j,seqIndex? i xs.length=some j/\xs[j]?=some v/\j<xs.length/\-(xs.length:Int)<=i/\i<xs.length:=by
 unfold atI at h
 cases e:ixN xs.length i with
 |none=>rw [e] at h;cases h
 |some j =>
  rw [e] at h
  obtain ⟨h1,h2,h3,h4⟩:=zkG e
  exact ⟨j,h1,h,h2,h3,h4⟩
def zlj (b:Expr):Prop:=∀ o i,subscripted b false o i=operate [o,i] (getItem o i)
def IxR (X:Cx) (r:R2):Prop :=
 ∀ (value slice:Expr) (pins:List (Addr×Obj)) (s:Shared) (σ:St) (H:Hp) (x y:V) (v u:Value) (Q:VK),Inv X pins σ H s->RelV x v->RelV y u->r x y H Q ->
  subscripted slice false v u=operate [v,u] (getItem v u)->wpAny (model X.prog X.w) X.A (subscriptTail value slice v u) (EP X pins σ Q) X.xe s
def MtR (X:Cx) (id:String) (r:V->List V->Hp->VK->Prop):Prop :=
 ∀ (pins:List (Addr×Obj)) (s:Shared) (σ:St) (H:Hp) (x:V) (xs:List V) (v:Value) (us:List Value) (Q:VK),Inv X pins σ H s->RelV x v->Vals xs us->r x xs H Q ->
  wpAny (model X.prog X.w) X.A (call (.builtin id) (v::us)) (EP X pins σ Q) X.xe s
section
variable {X : Cx} {a b : Expr} {ta tb : TE} {pos : Pos}
theorem pe_ix {r:R2} (hr:IxR X r) (ha:PE X a ta) (hb:PE X b tb) (hs:zlj b):PE X (.Subscript a b pos) (tOp r ta tb):=by
 intro pins s σ H Q I h
 exact Subscript_ (binT ha hb I h fun v u s2 x y H2 I2 rx ry q=>hr a b pins s2 σ H2 x y v u Q I2 rx ry q (hs _ _))
def rIxL (K:PySem.W.Frag):R2:=fun x y H Q=>∃ p xs i v,x=.ref p/\y=.int i/\SqL K H p xs/\atI xs i=some v/\Q v H
def rIxT (K:PySem.W.Frag):R2:=fun x y H Q=>∃ p xs i v,x=.ref p/\y=.int i/\SqT K H p xs/\atI xs i=some v/\Q v H
def rIxS:R2:=fun x y H Q=>∃ z i c,x=.str z/\y=.int i/\z.length<=sizeLine/\atI z.cps.toList i=some c/\Q (.str ⟨#[c]⟩) H
theorem zoo:IxR X (rIxL X.K):=by
 intro value slice pins s σ H x y v u Q I rx ry h hs
 obtain ⟨p,xs,i,z,rfl,rfl,hq,he,q⟩:=h
 cases rx
 obtain ⟨t,rfl⟩:=ry
 obtain ⟨its,r,pl,hz⟩:=I.list hq
 obtain ⟨j,h1,h2,h3,h4,h5⟩:=zhW he
 obtain ⟨w,ew,rw'⟩:=r.get h2
 have hl:=r.length
 have hn:=zdX
 have fin:EP X pins σ Q w s:=⟨z,H,I,rw',q⟩
 by_cases h0:0<=i
 .have hj:i.toNat=j:=by
   rw [seqIndex_of h0 h5] at h1
   exact Option.some.inj h1
  exact item_listR pl.isList h0 (by omega) (by rw [hj];simpa using ew) fin hs
 .have hj:(i+(its.toArray.size:Int)).toNat=j:=by
   rw [seqIndex_neg (by omega) h4] at h1
   rw [List.size_toArray,← hl]
   exact Option.some.inj h1
  exact subscriptTail_builtinR (x:=w) pl.isList.typeIs slot_list_getitem.lookup
   (wpAny_getItem_list_neg (Q:=fun r s'=>r=w/\EP X pins σ Q r s') pl.isList (by omega) (by rw [List.size_toArray] <;> omega) (by omega) (by rw [hj];simpa using ew) ⟨rfl,fin⟩) hs
theorem zqz:IxR X (rIxT X.K):=by
 intro value slice pins s σ H x y v u Q I rx ry h hs
 obtain ⟨p,xs,i,z,rfl,rfl,hq,he,q⟩:=h
 cases rx
 obtain ⟨t,rfl⟩:=ry
 obtain ⟨its,r,pl,hz⟩:=I.tuple hq
 obtain ⟨j,h1,h2,h3,h4,h5⟩:=zhW he
 obtain ⟨w,ew,rw'⟩:=r.get h2
 have hl:=r.length
 have hn:=zdX
 have fin:EP X pins σ Q w s:=⟨z,H,I,rw',q⟩
 exact subscriptTail_builtinR (x:=w) pl.typeIs slot_tuple_getitem.lookup
  (getItem_tuple (j:=j) (Q:=fun r s'=>r=w/\EP X pins σ Q r s') pl (by omega) (by omega) (by rw [List.size_toArray,← hl];exact h1) (by simpa using ew) ⟨rfl,fin⟩) hs
theorem zqA:IxR X rIxS:=by
 intro value slice pins s σ H x y v u Q I rx ry h hs
 obtain ⟨z,i,c,rfl,rfl,hz,he,q⟩:=h
 obtain ⟨t,rfl⟩:=rx
 obtain ⟨t',rfl⟩:=ry
 obtain ⟨j,h1,h2,h3,h4,h5⟩:=zhW he
 have hl:z.cps.toList.length=z.length:=by simp [Str.length]
 rw [hl] at h1 h4 h5
 have hn:=zdX
 exact tail_any (typeIs_str s z t) slot_str_getitem.lookup (getItem_str (c:=c) (by
  have e1:decide (i < -(2 ^ 63:Int))=false:=decide_eq_false (by omega)
  have e2:decide (i>=2 ^ 63)=false:=decide_eq_false (by omega)
  rw [e1,e2,Bool.or_false]) (by rw [h1];simpa using h2) ⟨.str ⟨#[c]⟩,H,I.tok _,⟨_,rfl⟩,q⟩) hs
def rIx (K:PySem.W.Frag):R2:=fun x y H Q=>rIxL K x y H Q\/rIxT K x y H Q\/rIxS x y H Q
theorem zjb (its:List Value) (n j:Nat) (u:Value):Obj.mapSeq (·.setIfInBounds j u) { cls:=.type "list", data:=.seq its.toArray n }={ cls:=.type "list", data:=.seq (its.set j u).toArray n }:=by
 simp [Obj.mapSeq]
theorem Inv.lst {pins:List (Addr×Obj)} {σ:St} {H:Hp} {s:Shared} {p:Addr} {xs:List V} (I:Inv X pins σ H s) (h:H p=some (.lst xs)) :
  ∃ (its:List Value) (n:Nat),Vals xs its/\s.heap.get? p=some { cls:=.type "list", data:=.seq its.toArray n }/\xs.length<=sizeLine:=by
 obtain ⟨z,its,n,r,e⟩:=I.hok p _ h
 exact ⟨its,n,r,e,z⟩
theorem Inv.lstUpd {pins:List (Addr×Obj)} {σ:St} {H:Hp} {s:Shared} {p:Addr} {xs ys:List V} {its its':List Value} {n n':Nat} {f:Obj->Obj} (I:Inv X pins σ H s) (h:H p=some (.lst xs))
  (ho:s.heap.get? p=some { cls:=.type "list", data:=.seq its.toArray n }) (hf:f { cls:=.type "list", data:=.seq its.toArray n }={ cls:=.type "list", data:=.seq its'.toArray n' }) (r:Vals ys its') (hz:ys.length<=sizeLine) (t:Nat) :
  Inv X pins σ (upd H p (.lst ys)) { s with heap:=s.heap.update p f,toks:=t }:=by
 have e:(s.heap.update p f).get? p=some { cls:=.type "list", data:=.seq its'.toArray n' }:=by
  rw [Heap.get?_update_self f ho (by rw [hf] <;> rfl),hf]
 refine I.write (x:=p) (e:=p) (by rw [h];trivial) (.inl rfl) (fun b u hb q=>(Heap.get?_update_other _ _ (Ne.symm hb)).trans q) ⟨_,e⟩ ?_
 exact ⟨hz,its',n',r,e⟩
def rSetL:V->V->V->Hp->(Hp->Prop)->Prop:=fun o i v H Q=>∃ p xs k j,o=.ref p/\i=.int k/\H p=some (.lst xs)/\ixN xs.length k=some j/\Q (upd H p (.lst (xs.set j v)))
theorem zlA:PSet X rSetL:=by
 intro pins s σ H o i v ov iv u Q I ro ri rv h
 obtain ⟨p,xs,k,j,rfl,rfl,hp,hj,q⟩:=h
 cases ro
 obtain ⟨t,rfl⟩:=ri
 obtain ⟨its,n,r,ho,hz⟩:=I.lst hp
 obtain ⟨h1,h2,h3,h4⟩:=zkG hj
 have hl:=r.length
 have hn:=zdX
 have I':Inv X pins σ (upd H p (.lst (xs.set j v))) { s with heap:=s.heap.update p (Obj.mapSeq (·.setIfInBounds j u)) } :=
  I.lstUpd hp ho (zjb its n j u) (r.set rv j) (by rw [List.length_set];exact hz) s.toks
 by_cases h0:0<=k
 .have hk:k.toNat=j:=by
   rw [seqIndex_of h0 h4] at h1
   exact Option.some.inj h1
  exact PySem.W.ki_setAt ho h0 (by omega) (by rw [List.size_toArray,← hl];exact h4) (by rw [hk];exact ⟨_,I',q⟩)
 .have hk:(k+(its.toArray.size:Int)).toNat=j:=by
   rw [seqIndex_neg (by omega) h3] at h1
   rw [List.size_toArray,← hl]
   exact Option.some.inj h1
  exact PySem.W.ki_setBack ho (by omega) (by rw [List.size_toArray,← hl];exact h3) (by omega) (by rw [hk];exact ⟨_,I',q⟩)
theorem zf2 (lo hi:Option Int) (n:Nat):(sliceBounds lo hi none n).1=((HT.sIx n 0 lo:Nat):Int)/\(sliceBounds lo hi none n).2.1=((HT.sIx n n hi:Nat):Int)/\(sliceBounds lo hi none n).2.2=1:=by
 refine ⟨?_,?_,rfl⟩
 .cases lo with
  |none=>simp [sliceBounds,HT.sIx]
  |some i =>
   simp only [sliceBounds,HT.sIx,Option.getD_none,show (1:Int) > 0 by decide,if_true]
   by_cases h:i<0
   .simp only [h,if_true] <;> omega
   .simp only [h,if_false] <;> omega
 .cases hi with
  |none=>simp [sliceBounds,HT.sIx]
  |some i =>
   simp only [sliceBounds,HT.sIx,Option.getD_none,show (1:Int) > 0 by decide,if_true]
   by_cases h:i<0
   .simp only [h,if_true] <;> omega
   .simp only [h,if_false] <;> omega
theorem zfb (its:List Value) (lo hi:Option Int):slicePick its.toArray lo hi none=((its.drop (HT.sIx its.length 0 lo)).take (HT.sIx its.length its.length hi - HT.sIx its.length 0 lo)).toArray:=by
 obtain ⟨h1,h2,h3⟩:=zf2 lo hi its.toArray.size
 unfold slicePick
 rw [h1,h2,h3]
 simp only [sliceRange_one,pick_run,List.size_toArray] <;> rfl
def rSlL (K:PySem.W.Frag):V->Option Int->Option Int->Hp->VK->Prop:=fun x lo hi H Q=>∃ a xs,x=.ref a/\SqL K H a xs/\∀ p,H p=none->Q (.ref p) (upd H p (.lst (cutV xs lo hi)))
theorem zjS:SlR X (rSlL X.K):=by
 intro pins s σ H x v vl vu lo hi sl Q I rx hs pl pu h
 obtain ⟨a,xs,rfl,hx,q⟩:=h
 cases rx
 obtain ⟨its,r,ht,hz⟩:=I.list hx
 have hlen:=r.length
 refine ⟨"list", _,slot_list_getitem.lookup,ht.isList.typeIs,?_⟩
 refine wpAny_getItem_list_slice ht.isList hs pl pu .none (by simp) ?_ (by rw [List.size_toArray] <;> omega)
 rw [zfb,← hlen]
 refine ⟨.ref s.heap.objs.size,_,I.laid (t':=s.toks) (o:=.lst (cutV xs lo hi)) (fun b ob q=>Heap.get?_push_of_some _ q) (Nat.le_refl _) ?_,rfl,q _ (I.hok.fresh (Nat.le_refl _))⟩
 exact ⟨Nat.le_trans (zd7 xs lo hi) hz,_,0,(r.drop (HT.sIx xs.length 0 lo)).take (HT.sIx xs.length xs.length hi - HT.sIx xs.length 0 lo),Heap.get?_push_size _ rfl⟩
def zqT:V->Bool
 | .non=>true
 | .bl _=>true
 | .int _=>true
 | .str _=>true
 |_=>false
def eqV:V->V->Bool
 | .non,.non=>true
 | .bl a,.bl b=>a==b
 | .bl a,.int b=>(if a then 1 else 0)==b
 | .int a,.bl b=>a==(if b then 1 else 0)
 | .int a,.int b=>a==b
 | .str a,.str b=>a==b
 |_,_=>false
def eqU (x:V) (u:Value):Bool:=match u with
 | .none=>eqV .non x
 | .bool b=>eqV (.bl b) x
 | .int i _=>eqV (.int i) x
 | .str z _=>eqV (.str z) x
 |_=>false
def inV (x:V) (xs:List V):Bool:=xs.any fun y=>eqV y x
def rIn (K:PySem.W.Frag) (neg:Bool):R2:=fun x y H Q=>∃ p xs,y=.ref p/\(SqL K H p xs\/SqT K H p xs)/\zqT x=true/\xs.all zqT=true/\Q (.bl (if neg then !inV x xs else inV x xs)) H
theorem zgq:OpR X (compareOp .NotIn) (fun x y H Q=>∃ i j,x=.str i/\y=.str j/\Q (.bl (!(!(Builtin.Str.occurrences j i 0 j.length 1).isEmpty))) H):=by
 intro pins s σ H x y v u Q I rx ry h
 obtain ⟨i,j,rfl,rfl,q⟩:=h
 obtain ⟨t,rfl⟩:=rx
 obtain ⟨t',rfl⟩:=ry
 exact notIn_str ⟨.bl _,H,I,rfl,q⟩
theorem zcd:zbV X (.builtin "len") (fun xs H Q=>∃ p ys,xs=[.ref p]/\(SqL X.K H p ys\/SqT X.K H p ys)/\Q (.int ys.length) H):=by
 intro pins s σ H xs us Q I r h
 obtain ⟨p,ys,rfl,hq,q⟩:=h
 obtain ⟨u,rfl,rx⟩:=zc6 r
 cases rx
 have hn:=zdX
 rcases hq with hq | hq
 .obtain ⟨its,r',pl,hz⟩:=I.list hq
  have hlen:=r'.length
  exact Calls.call_len_list pl.isList (by simp only [List.size_toArray] <;> omega) ⟨.int ys.length,H,I.tok _,⟨s.toks+1,by rw [List.size_toArray,hlen]⟩,q⟩
 .obtain ⟨its,r',pl,hz⟩:=I.tuple hq
  have hlen:=r'.length
  exact len_tuple pl (by simp only [List.size_toArray] <;> omega) ⟨.int ys.length,H,I.tok _,⟨s.toks+1,by rw [List.size_toArray,hlen]⟩,q⟩
theorem zg1:zbV X (.builtin "len") (fun xs H Q=>∃ z,xs=[.str z]/\z.length<=sizeLine/\Q (.int z.length) H):=by
 intro pins s σ H xs us Q I r h
 obtain ⟨z,rfl,hz,q⟩:=h
 obtain ⟨u,rfl,t,rfl⟩:=zc6 r
 have hn:=zdX
 exact len_str (by omega) ⟨.int z.length,H,I.tok _,⟨_,rfl⟩,q⟩
theorem zg0:zbV X (.type "list") (fun xs H Q=>∃ p ys,xs=[.ref p]/\(SqL X.K H p ys\/SqT X.K H p ys)/\∀ l,H l=none->Q (.ref l) (upd H l (.lst ys))):=by
 intro pins s σ H xs us Q I r h
 obtain ⟨p,ys,rfl,hq,q⟩:=h
 obtain ⟨u,rfl,rx⟩:=zc6 r
 cases rx
 have fin:∀ (its:List Value),Vals ys its->ys.length<=sizeLine->∀ (h':Heap) (c':Nat),(∀ b o',s.heap.get? b=some o'->h'.get? b=some o') ->
   h'.get? s.heap.objs.size=some { cls:=.type "list", dict:=none,data:=.seq its.toArray c',slots:=#[] }->EP X pins σ Q (.ref s.heap.objs.size) { s with heap:=h' }:=fun its r' hz h' c' kp e =>
  ⟨.ref s.heap.objs.size,_,I.laid (t':=s.toks) kp (Nat.le_refl _) (show zbn X.prog X.w _ h' _ (.lst ys) from ⟨hz,its,c',r',e⟩),rfl,q _ (I.hok.fresh (Nat.le_refl _))⟩
 rcases hq with hq | hq
 .obtain ⟨its,r',pl,hz⟩:=I.list hq
  have hlen:=r'.length
  obtain ⟨o,ho,hc,n,hd⟩:=pl.isList
  exact call_list_seq p (.inl rfl) ho hc hd (fun h' c' kp e=>fin its r' hz h' c' kp e) (by simp only [List.size_toArray] <;> omega)
 .obtain ⟨its,r',pl,hz⟩:=I.tuple hq
  have hlen:=r'.length
  obtain ⟨o,ho,hc,n,hd⟩:=pl
  exact call_list_seq p (.inr rfl) ho hc hd (fun h' c' kp e=>fin its r' hz h' c' kp e) (by simp only [List.size_toArray] <;> omega)
theorem zfI:zbV X (.type "tuple") (fun xs H Q=>∃ p ys,xs=[.ref p]/\((SqL X.K H p ys/\∀ l,H l=none->Q (.ref l) (upd H l (.tup ys)))\/(SqT X.K H p ys/\Q (.ref p) H))):=by
 intro pins s σ H xs us Q I r h
 obtain ⟨p,ys,rfl,h⟩:=h
 obtain ⟨u,rfl,rx⟩:=zc6 r
 cases rx
 rcases h with ⟨hq,q⟩ | ⟨hq,q⟩
 .obtain ⟨its,r',pl,hz⟩:=I.list hq
  have hlen:=r'.length
  refine call_tuple_list pl.isList (fun h' kp=>?_) (by simp only [List.size_toArray] <;> omega)
  have I1:Inv X pins σ H { s with heap:=h' }:=I.kept (t':=s.toks) kp
  have I2:Inv X pins σ (upd H h'.objs.size (.tup ys)) { s with heap:=h'.push { cls:=.type "tuple", data:=.seq its.toArray } } :=
   I1.laid (t':=s.toks) (fun b o e=>Heap.get?_push_of_some _ e) (Nat.le_refl _) (show zbn X.prog X.w _ _ _ (.tup ys) from ⟨hz,its,r',IsTup.new _ _⟩)
  exact ⟨.ref h'.objs.size,_,I2,rfl,q _ (I1.hok.fresh (Nat.le_refl _))⟩
 .obtain ⟨its,r',pl,hz⟩:=I.tuple hq
  exact call_tuple_same pl ⟨.ref p,H,I,rfl,q⟩
def tyV (K:PySem.W.Frag) (T:String) (x:V) (H:Hp):Prop:=match x with
 | .str _=>T = "str"
 | .int _=>T = "int"
 | .ref p=>(T = "list" /\ ∃ xs,SqL K H p xs)\/(T = "tuple" /\ ∃ o,K.lookup p=some o/\o.cls=.type "tuple" /\ o.dict=none) \/
   (T = "dict" /\ ((∃ kvs,H p=some (.dK kvs))\/∃ kvs,H p=some (.dT kvs)))\/(T = "set" /\ ∃ S n,H p=some (.set S n))
 |_=>False
theorem zm1 {pins:List (Addr×Obj)} {σ:St} {H:Hp} {s:Shared} {T:String} {x:V} {v:Value} (I:Inv X pins σ H s) (r:RelV x v) (ty:tyV X.K T x H) :
  s.TypeIs v T/\∀ a,v=.ref a->∃ ob,s.heap.get? a=some ob/\ob.dict=none:=by
 cases x with
 |str z =>
  obtain ⟨t,rfl⟩:=r
  cases (show T = "str" from ty)
  exact ⟨typeIs_str s z t,fun _ e=>nomatch e⟩
 |int i =>
  obtain ⟨t,rfl⟩:=r
  cases (show T = "int" from ty)
  exact ⟨typeIs_int s i t,fun _ e=>nomatch e⟩
 |ref p =>
  cases r
  rcases ty with ⟨rfl,xs,hq⟩ | ⟨rfl,o,hk,hc,hd⟩ | ⟨rfl,hk⟩ | ⟨rfl,S,n,hk⟩
  .obtain ⟨its,_,pl,_⟩:=I.list hq
   refine ⟨pl.isList.typeIs,fun a e=>?_⟩
   cases e
   obtain ⟨o,n,e,c,hd,_⟩:=pl
   exact ⟨o,e,hd⟩
  .refine ⟨⟨o,I.kIn p o hk,hc⟩,fun a e=>?_⟩
   cases e
   exact ⟨o,I.kIn _ o hk,hd⟩
  .have z:∃ o,s.heap.get? p=some o/\o.ExactDict:=by
    rcases hk with ⟨kvs,hk⟩ | ⟨kvs,hk⟩
    .obtain ⟨_,_,_,_,o,_,_,e,ex,_⟩:=I.hok p _ hk
     exact ⟨o,e,ex⟩
    .obtain ⟨_,_,_,_,o,_,_,e,ex,_⟩:=I.hok p _ hk
     exact ⟨o,e,ex⟩
   obtain ⟨o,e,ex⟩:=z
   refine ⟨⟨o,e,ex.1⟩,fun a e2=>?_⟩
   cases e2
   exact ⟨o,e,ex.2.1⟩
  .obtain ⟨o,_,_,_,e,ex,_⟩:=I.hok p _ hk
   refine ⟨⟨o,e,ex.1⟩,fun a e2=>?_⟩
   cases e2
   exact ⟨o,e,ex.2.1⟩
 |_=>exact False.elim ty
def tBM0 (K:PySem.W.Frag) (T:String) (r:V->List V->Hp->VK->Prop) (to:TE):TE:=fun σ H Q=>to σ H fun x H1=>tyV K T x H1/\r x [] H1 Q
def tBM (K:PySem.W.Frag) (T:String) (r:V->List V->Hp->VK->Prop) (to:TE) (t:TA):TE:=fun σ H Q=>to σ H fun x H1=>tyV K T x H1/\t σ H1 fun xs H2=>r x xs H2 Q
variable {o e : Expr} {es : List Expr} {to : TE} {t : TA} {name : Str} {apos cpos : Pos} {T id : String} {r : V → List V → Hp → VK → Prop}
theorem zp5 (pa:PlainAttrs T) (slot:Slot T name id) (hty:typeOf (.builtin id)=pure (.type "method_descriptor")) (hm:MtR X id r) (ho:PE X o to)
  (hbase:attributeBase o name X.env (eval o X.env)=eval o X.env:=by rfl) (hline:(apos.endLine==cpos.line)=true:=by rfl):PE X (.Call (.Attribute o name apos) [] [] cpos) (tBM0 X.K T r to):=by
 intro pins s σ H Q I h
 refine wpAny_Call_method0_late hbase hline (thn (ho pins s σ H _ I h) fun v s1 ⟨x,H1,I1,r1,ty,q1⟩=>?_)
 obtain ⟨h1,h2⟩:=zm1 I1 r1 ty
 exact ⟨T,id,pa,slot,hty,h1,h2,Calls.callWith_builtin rfl (PySem.evalArgs_none (hm pins s1 σ H1 x [] v [] Q I1 r1 .nil q1))⟩
theorem pe_bm (pa:PlainAttrs T) (slot:Slot T name id) (hty:typeOf (.builtin id)=pure (.type "method_descriptor")) (hm:MtR X id r) (ho:PE X o to) (ha:PA X (e::es) t)
  (hbase:attributeBase o name X.env (eval o X.env)=eval o X.env:=by rfl)
  (hfew:((backTo cpos (starEach (e::es) X.env)).all (fun x=>!x.1)&&(backToKw cpos (keywordEach [] X.env)).all (fun x=>x.1.isSome)
   && decide ((e::es).length+([]:List Keyword).length+(if ([]:List Keyword).isEmpty then 0 else 1)<30))=true:=by rfl)
  (hline:(apos.endLine==cpos.line)=true:=by rfl) (hs:starEach (e::es) X.env=(false,eval e X.env)::starEach es X.env:=by rfl) (hplain:(backTo cpos (starEach es X.env)).any (·.1)=false:=by rfl) :
  PE X (.Call (.Attribute o name apos) (e::es) [] cpos) (tBM X.K T r to t):=by
 intro pins s σ H Q I h
 refine wpAny_Call_method_late hbase hfew hline rfl (thn (ho pins s σ H _ I h) fun v s1 ⟨x,H1,I1,r1,ty,q1⟩=>?_)
 obtain ⟨h1,h2⟩:=zm1 I1 r1 ty
 refine ⟨T,id,pa,slot,hty,h1,h2,?_⟩
 have hA:=ha cpos pins s1 σ H1 _ I1 q1
 rw [hs] at hA ⊢
 refine Calls.callWith_builtin (by show (false || (backTo cpos (starEach es X.env)).any (·.1))=false;rw [hplain] <;> rfl) (Calls.evalArgs_plain ?_)
 exact thn hA fun us s2 ⟨vs,H2,I2,r2,q2⟩=>hm pins s2 σ H2 x vs v us Q I2 r1 r2 q2
/- xs.append(e),list.index on a module's tuple .. are MtR facts of 06m -/
end
end L2
namespace L2
open PySem PySem.Spec PyProof.Rows
def MtM (X:Cx) (id:String) (r:V->List V->Hp->VK->Prop):Prop :=
 ∀ (pins:List (Addr×Obj)) (s:Shared) (σ:St) (H:Hp) (x:V) (xs:List V) (v:Value) (us:List Value) (Q:VK),Inv X pins σ H s->RelV x v->Vals xs us->r x xs H Q ->
  wpAny (model X.prog X.w) X.A (call (.builtin id) (v::us)) (EP X pins σ Q) X.xe s
theorem Vals.one:∀ {x:V} {us:List Value},Vals [x] us->∃ u,us=[u]/\RelV x u
 |_,_,.cons r .nil=>⟨_,rfl,r⟩
theorem Vals.zero:∀ {us:List Value},Vals [] us->us=[]
 |_,.nil=>rfl
theorem Vals.dropLast {xs:List V} {us:List Value} (h:Vals xs us):Vals xs.dropLast us.dropLast:=by
 induction h with
 |nil=>exact .nil
 |cons r t ih =>
  cases t with
  |nil=>exact .nil
  |cons q t'=>exact .cons r ih
theorem Vals.eraseIdx:∀ {xs:List V} {us:List Value} (i:Nat),Vals xs us->Vals (xs.eraseIdx i) (us.eraseIdx i)
 |_,_,_,.nil=>.nil
 |_,_,0,.cons _ t=>t
 |_,_,i+1,.cons r t=>.cons r (Vals.eraseIdx i t)
theorem Vals.rep {xs:List V} {us:List Value} (h:Vals xs us):∀ k:Nat,Vals (List.replicate k xs).flatten (List.replicate k us).flatten
 | 0=>.nil
 |k+1=>by
  rw [List.replicate_succ,List.replicate_succ,List.flatten_cons,List.flatten_cons]
  exact Vals.append h (Vals.rep h k)
theorem zjo {α:Type} (l:List α):l.eraseIdx (l.length - 1)=l.dropLast:=by
 induction l with
 |nil=>rfl
 |cons a r ih =>
  cases r with
  |nil=>rfl
  |cons b r =>
   have e:(a::b::r).length - 1=((b::r).length - 1)+1:=by
    have h1:(a::b::r).length=r.length+2:=rfl
    have h2:(b::r).length=r.length+1:=rfl
    omega
   rw [e,List.eraseIdx_cons_succ,ih]
   all_goals rfl
theorem zgL {α:Type}:∀ (l:List α) (i:Nat),(l.eraseIdx i).length<=l.length
 | [],_=>Nat.le_refl _
 |_::_,0=>Nat.le_succ _
 |_::r,i+1=>Nat.succ_le_succ (zgL r i)
theorem zgR (its:List Value):∀ (k:Nat) (acc:List Value),
  List.foldl (fun x1 x2=>x1++x2) acc.toArray (List.replicate k its.toArray)=(acc++(List.replicate k its).flatten).toArray
 | 0,acc=>by simp
 |k+1,acc=>by
  have e:acc.toArray++its.toArray=(acc++its).toArray:=by simp
  have e2:(acc++its)++(List.replicate k its).flatten=acc++(List.replicate (k+1) its).flatten:=by
   rw [List.replicate_succ,List.flatten_cons,List.append_assoc]
  rw [← e2,← zgR its k (acc++its),← e,List.replicate_succ,List.foldl_cons]
section
variable {X : Cx} {pins : List (Addr × Obj)} {σ : St} {H : Hp} {s : Shared} {l b : Addr} {xs ys zs : List V}
theorem Inv.lset {its its':List Value} {n:Nat} {f:Array Value->Array Value} {t':Nat} (I:Inv X pins σ H s) (hH:H l=some (.lst xs))
  (e:s.heap.get? l=some { cls:=.type "list", data:=.seq its.toArray n }) (hf:f its.toArray=its'.toArray) (hv:Vals ys its') (hz:ys.length<=sizeLine) :
  Inv X pins σ (upd H l (.lst ys)) { s with heap:=s.heap.update l (Obj.mapSeq f),toks:=t' }:=by
 have q:=PySem.IsL.update e f
 rw [hf] at q
 refine I.write (x:=l) (e:=l) (by rw [hH];exact trivial) (.inl rfl) (fun b' u hb hu=>(Heap.get?_update_other s.heap (Obj.mapSeq f) (Ne.symm hb)).trans hu) ⟨_,q⟩ ?_
 exact ⟨hz,its',_,hv,q⟩
theorem Inv.lnew {its:List Value} {t':Nat} (I:Inv X pins σ H s) (hv:Vals ys its) (hz:ys.length<=sizeLine) :
  Inv X pins σ (upd H s.heap.objs.size (.lst ys)) { s with heap:=s.heap.push { cls:=.type "list", data:=.seq its.toArray },toks:=t' } :=
 I.laid (fun _ _ q=>Heap.get?_push_of_some _ q) (Nat.le_refl _) ⟨hz,its,0,hv,Heap.get?_push_size _ rfl⟩
theorem Inv.fresh (I:Inv X pins σ H s):H s.heap.objs.size=none:=I.hok.fresh (Nat.le_refl _)
theorem Inv.lstM (I:Inv X pins σ H s) (hH:H l=some (.lst xs)):xs.length<=sizeLine/\∃ (its:List Value) (n:Nat),Vals xs its/\xs.length=its.length/\s.heap.get? l=some { cls:=.type "list", data:=.seq its.toArray n }:=by
 obtain ⟨z,its,n,r,e⟩:=I.hok l _ hH
 exact ⟨z,its,n,r,r.length,e⟩
theorem zl8 {n:Nat} (h:n<=sizeLine):Builtin.List.listTooLong n=false:=by
 unfold Builtin.List.listTooLong
 exact decide_eq_false (by omega)
end
section
variable {X : Cx}
def znN:V->List V->Hp->VK->Prop:=fun x vs H Q=>∃ l xs y,x=.ref l/\vs=[y]/\H l=some (.lst xs)/\xs.length<sizeLine/\Q .non (upd H l (.lst (xs++[y])))
theorem zkn:MtM X "list.append" znN:=by
 intro pins s σ H x vs v us Q I rx rv h
 obtain ⟨l,xs,y,rfl,rfl,hH,hz,q⟩:=h
 cases rx
 obtain ⟨u,rfl,ru⟩:=rv.one
 obtain ⟨z,its,n,r,hl,e⟩:=I.lstM hH
 refine call_meets F.slot_list_append ⟨_,e,rfl⟩ F.entry_list_append (F.args_list_append_2 _ _) (PySem.list_append l its.toArray n u (by rw [List.size_toArray];omega)) ⟨e,?_⟩
 refine ⟨.non,_,I.lset (its':=its++[u]) hH e (by simp) (r.append (.cons ru .nil)) ?_,rfl,q⟩
 rw [List.length_append,List.length_singleton]
 omega
def rExtend:V->List V->Hp->VK->Prop:=fun x vs H Q=>∃ l b xs zs,x=.ref l/\vs=[.ref b]/\H l=some (.lst xs)/\H b=some (.lst zs)/\xs.length+zs.length<=sizeLine/\Q .non (upd H l (.lst (xs++zs)))
def rPop:V->List V->Hp->VK->Prop:=fun x vs H Q=>∃ l xs y,x=.ref l/\vs=[]/\H l=some (.lst xs)/\xs[xs.length - 1]?=some y/\Q y (upd H l (.lst xs.dropLast))
theorem zqg:MtM X "list.pop" rPop:=by
 intro pins s σ H x vs v us Q I rx rv h
 obtain ⟨l,xs,y,rfl,rfl,hH,hy,q⟩:=h
 cases rx
 have hus:=rv.zero
 subst hus
 obtain ⟨z,its,n,r,hl,e⟩:=I.lstM hH
 obtain ⟨u,hu,ru⟩:=r.get hy
 have hy':its.toArray[its.toArray.size - 1]?=some u:=by
  show its.toArray[its.length - 1]?=some u
  rw [← Array.getElem?_toList,← hl]
  exact hu
 refine call_meets F.slot_list_pop ⟨_,e,rfl⟩ F.entry_list_pop (F.args_list_pop_1 _) (MeetsSeq.list_pop_last l its.toArray n u hy' (by rw [List.size_toArray];omega)) ⟨e,?_⟩
 refine ⟨y,_,I.lset (its':=its.dropLast) hH e ?_ r.dropLast ?_,ru,q⟩
 .show its.toArray.eraseIdxIfInBounds (its.toArray.size - 1)=its.dropLast.toArray
  rw [List.size_toArray,List.eraseIdxIfInBounds_toArray,zjo]
 .rw [List.length_dropLast]
  omega
def rPopAt:V->List V->Hp->VK->Prop:=fun x vs H Q=>∃ l xs i k y,x=.ref l/\vs=[.int i]/\H l=some (.lst xs)/\-(2 ^ 63)<=i/\i<2 ^ 63/\seqIndex? i xs.length=some k/\xs[k]?=some y/\Q y (upd H l (.lst (xs.eraseIdx k)))
def rReverse:V->List V->Hp->VK->Prop:=fun x vs H Q=>∃ l xs,x=.ref l/\vs=[]/\H l=some (.lst xs)/\Q .non (upd H l (.lst xs.reverse))
def rClear:V->List V->Hp->VK->Prop:=fun x vs H Q=>∃ l xs,x=.ref l/\vs=[]/\H l=some (.lst xs)/\Q .non (upd H l (.lst []))
def rCat:R2:=fun x y H Q=>∃ l b xs zs,x=.ref l/\y=.ref b/\H l=some (.lst xs)/\H b=some (.lst zs)/\xs.length+zs.length<=sizeLine/\∀ p,H p=none->Q (.ref p) (upd H p (.lst (xs++zs)))
theorem zqd:OpR X (binaryOp .Add) rCat:=by
 intro pins s σ H x y v u Q I rx ry h
 obtain ⟨l,b,xs,zs,rfl,rfl,hH,hB,hz,q⟩:=h
 cases rx
 cases ry
 obtain ⟨z,its,n,r,hl,e⟩:=I.lstM hH
 obtain ⟨z2,its2,n2,r2,hl2,e2⟩:=I.lstM hB
 refine PySem.P.add_list e e2 ?_ (by rw [List.size_toArray,List.size_toArray];omega)
 have ea:its.toArray++its2.toArray=(its++its2).toArray:=by simp
 rw [ea]
 exact ⟨.ref _,_,I.lnew (t':=s.toks) (r.append r2) (by rw [List.length_append];omega),rfl,q _ I.fresh⟩
def rRep:R2:=fun x y H Q=>∃ l k xs,x=.ref l/\y=.int k/\H l=some (.lst xs)/\-(2 ^ 63)<=k/\k<2 ^ 63/\xs.length * k.toNat<=sizeLine /\
 ∀ p,H p=none->Q (.ref p) (upd H p (.lst (List.replicate k.toNat xs).flatten))
theorem zog {α:Type} (xs:List α) (k:Nat):(List.replicate k xs).flatten.length=k * xs.length:=by
 induction k with
 |zero=>simp
 |succ k ih=>rw [List.replicate_succ,List.flatten_cons,List.length_append,ih,Nat.succ_mul,Nat.add_comm]
theorem zp9:OpR X (binaryOp .Mult) rRep:=by
 intro pins s σ H x y v u Q I rx ry h
 obtain ⟨l,k,xs,rfl,rfl,hH,h1,h2,hz,q⟩:=h
 cases rx
 obtain ⟨t,rfl⟩:=ry
 obtain ⟨z,its,n,r,hl,e⟩:=I.lstM hH
 have hlen:its.toArray.size * k.toNat<=sizeLine:=by rw [List.size_toArray,← hl];exact hz
 have hcap:¬ its.toArray.size * k.toNat > (2 ^ 63 - 1) / 8:=by
  have:(sizeLine:Nat)<=(2 ^ 63 - 1) / 8:=by decide
  omega
 have hfit:¬ (!Builtin.List.listFitsIndex k)=true:=by
  rw [fitsIndex_both h1 h2]
  exact zzN
 have hlong:¬ Builtin.List.listTooLong (its.toArray.size * k.toNat)=true:=by
  rw [zl8 hlen]
  exact zzN
 have hnew:List.foldl (fun x1 x2=>x1++x2) #[] (List.replicate (if its.toArray.isEmpty=true then 0 else k.toNat) its.toArray)=(List.replicate k.toNat its).flatten.toArray:=by
  have f0:∀ m:Nat,List.foldl (fun x1 x2=>x1++x2) #[] (List.replicate m its.toArray)=(List.replicate m its).flatten.toArray:=fun m=>by
   have:=zgR its m []
   rw [List.nil_append] at this
   exact this
  rw [f0]
  cases its with
  |nil=>simp
  |cons a r'=>rw [if_neg (by simp)]
 refine wpAny_binaryOp_repeat_ref (T := "list") (U := "int") (by decide) ⟨_,e,rfl⟩ (fun s'=>typeIs_int s' k t) noFill_list_mul F.fills_int_mul F.slot_int_rmul repeat_list F.slot_int_index.lookup
  (call_meets F.slot_int_rmul (typeIs_int s k t) F.entry_int_rmul (F.args_int_rmul_2 _ _) (int___rmul___int_list k t l its.toArray n)
   ⟨e,rfl,⟨_,e,rfl⟩,call_meets F.slot_list_mul ⟨_,e,rfl⟩ F.entry_list_mul (F.args_list_mul_2 _ _) (AutoListH.list___mul___list_int_3 l its.toArray n k t hfit hcap hlong) ⟨e,?_⟩⟩)
 rw [hnew]
 exact ⟨.ref _,_,I.lnew (t':=s.toks) (r.rep k.toNat) (by rw [zog,Nat.mul_comm];exact hz),rfl,q _ I.fresh⟩
end
section
variable {prog : Program} {w : World} {A : Around} {E : Value → Shared → Prop} {s : Shared}
set_option maxRecDepth 100000 in
end
section
variable {X : Cx}
end
end L2
namespace L2
open PySem PySem.Spec PyProof.Rows
section
variable {κ : Type} [DecidableEq κ]
def valV (kvs:List (κ×V)) (k:κ):Option V:=(kvs.find? fun kv=>decide (kv.1=k)).map (·.2)
def putK (kvs:List (κ×V)) (k:κ) (v:V):List (κ×V) :=
 if (kvs.any fun kv=>decide (kv.1=k))=true then kvs.map (fun kv=>if kv.1=k then (kv.1,v) else kv) else kvs++[(k,v)]
def zoW (kvs:List (κ×V)) (k:κ):List (κ×V):=kvs.filter fun kv=>decide (kv.1≠k)
theorem zeX {p:κ×V} {r:List (κ×V)} {k:κ} (e:p.1=k):valV (p::r) k=some p.2:=by simp [valV,List.find?_cons,e]
theorem zeY {p:κ×V} {r:List (κ×V)} {k:κ} (e:¬ p.1=k):valV (p::r) k=valV r k:=by simp [valV,List.find?_cons,e]
theorem zh2 (k:κ):∀ kvs:List (κ×V),(kvs.any fun kv=>decide (kv.1=k))=(valV kvs k).isSome
 | []=>rfl
 |p::r=>by
  rw [List.any_cons]
  by_cases e:p.1=k
  .simp only [zeX e,decide_eq_true e,Bool.true_or,Option.isSome_some]
  .rw [zeY e,decide_eq_false e,Bool.false_or];exact zh2 k r
theorem zcG (kvs:List (κ×V)) (k:κ) (v:V):(putK kvs k v).length<=kvs.length+1:=by
 unfold putK
 split
 .rw [List.length_map];omega
 .rw [List.length_append,List.length_cons,List.length_nil];omega
theorem RelO.isSome_eq {o:Option V} {u:Option Value} (r:RelO o u):o.isSome=u.isSome:=by
 cases o with
 |none=>cases u with
  |none=>rfl
  |some _=>exact (show False from r).elim
 |some _=>cases u with
  |none=>exact (show False from r).elim
  |some _=>rfl
theorem KV.val {kvs:List (κ×V)} {vs:List (κ×Value)} (r:KV kvs vs) (k:κ):RelO (valV kvs k) (valueAt vs k):=by
 unfold KV at r
 induction r with
 |nil=>exact True.intro
 | @cons p q ps qs h t ih =>
  obtain ⟨h1,h2⟩:=h
  by_cases e:p.1=k
  .have e':q.1=k:=h1.symm.trans e
   have b:valueAt (q::qs) k=some q.2:=by simp [valueAt,List.find?_cons,e']
   rw [zeX e,b];exact h2
  .have e':¬ q.1=k:=fun z=>e (h1.trans z)
   have b:valueAt (q::qs) k=valueAt qs k:=by simp [valueAt,List.find?_cons,e']
   rw [zeY e,b];exact ih
theorem KV.any {kvs:List (κ×V)} {vs:List (κ×Value)} (r:KV kvs vs) (k:κ):(kvs.any fun kv=>decide (kv.1=k))=vs.any fun kv=>decide (kv.1=k):=by
 unfold KV at r
 induction r with
 |nil=>rfl
 |cons h t ih=>rw [List.any_cons,List.any_cons,ih,h.1]
theorem KV.repl {kvs:List (κ×V)} {vs:List (κ×Value)} (r:KV kvs vs) (k:κ) {y:V} {u:Value} (ry:RelV y u) :
  KV (kvs.map fun kv=>if kv.1=k then (kv.1,y) else kv) (vs.map fun kv=>if kv.1=k then (kv.1,u) else kv):=by
 unfold KV at r ⊢
 induction r with
 |nil=>exact .nil
 | @cons p q ps qs h t ih =>
  rw [List.map_cons,List.map_cons]
  refine .cons ?_ ih
  obtain ⟨h1,h2⟩:=h
  by_cases e:p.1=k
  .rw [if_pos e,if_pos (h1.symm.trans e)];exact ⟨h1,ry⟩
  .rw [if_neg e,if_neg (fun z=>e (h1.trans z))];exact ⟨h1,h2⟩
theorem KV.put {kvs:List (κ×V)} {vs:List (κ×Value)} (r:KV kvs vs) (k:κ) {y:V} {u:Value} (ry:RelV y u):KV (putK kvs k y) (stored vs k u):=by
 unfold putK stored
 rw [r.any k]
 by_cases e:(vs.any fun kv=>decide (kv.1=k))=true
 .rw [if_pos e,if_pos e];exact r.repl k ry
 .rw [if_neg e,if_neg e];exact Paired.snoc r ⟨rfl,ry⟩
theorem KV.length {kvs:List (κ×V)} {vs:List (κ×Value)} (r:KV kvs vs):kvs.length=vs.length:=Paired.length r
end
theorem zmr {P:Program} {w:World} {k:Key} {u:Value} (r:RelV (kV k) u):(zaS P w).is k u=true:=by
 cases k with
 |inl i=>obtain ⟨t,e⟩:=(show ∃ t,u=Value.int i t from r);subst e;exact zhB P w i t
 |inr x=>obtain ⟨t,e⟩:=(show ∃ t,u=Value.str x t from r);subst e;exact zhA P w x t
theorem zgN {P:Program} {w:World}:∀ {ks:List Key} {us:List Value},Vals (ks.map kV) us->ItemsAre (zaS P w) ks us
 | [],_,r=>by rw [List.map_nil] at r;cases r;exact .nil
 |k::ks,_,r=>by
  rw [List.map_cons] at r
  cases r with
  |cons h t=>exact .cons (zmr h) (zgN t)
abbrev KT (H:Hp):List (List Key×V)->List (List Key×Addr×Value)->Prop:=Paired fun p q=>p.1=q.1/\H q.2.1=some (.tup (p.1.map kV))/\RelV p.2 q.2.2
theorem KT.val {H:Hp} {kvs:List (List Key×V)} {xs:List (List Key×Addr×Value)} (r:KT H kvs xs) (k:List Key):RelO (valV kvs k) ((atKey xs k).map (·.2)):=by
 induction r with
 |nil=>exact True.intro
 | @cons p q ps qs h t ih =>
  obtain ⟨h1,_,h2⟩:=h
  by_cases e:p.1=k
  .have e':q.1=k:=h1.symm.trans e
   have b:atKey (q::qs) k=some q.2:=by simp [atKey,List.find?_cons,e']
   rw [zeX e,b];exact h2
  .have e':¬ q.1=k:=fun z=>e (h1.trans z)
   have b:atKey (q::qs) k=atKey qs k:=by simp [atKey,List.find?_cons,e']
   rw [zeY e,b];exact ih
theorem KT.repl {H:Hp} {kvs:List (List Key×V)} {xs:List (List Key×Addr×Value)} (r:KT H kvs xs) (k:List Key) {y:V} {u:Value} (ry:RelV y u) :
  KT H (kvs.map fun kv=>if kv.1=k then (kv.1,y) else kv) (xs.map (putAt k u)):=by
 induction r with
 |nil=>exact .nil
 | @cons p q ps qs h t ih =>
  rw [List.map_cons,List.map_cons]
  refine .cons ?_ ih
  obtain ⟨h1,h2,h3⟩:=h
  unfold putAt
  by_cases e:p.1=k
  .rw [if_pos e,if_pos (h1.symm.trans e)];exact ⟨h1,h2,ry⟩
  .rw [if_neg e,if_neg (fun z=>e (h1.trans z))];exact ⟨h1,h2,h3⟩
theorem KT.put {H:Hp} {kvs:List (List Key×V)} {xs:List (List Key×Addr×Value)} (r:KT H kvs xs) (k:List Key) {b:Addr} {y:V} {u:Value} (hb:H b=some (.tup (k.map kV))) (ry:RelV y u) :
  KT H (putK kvs k y) (storedH xs k b u):=by
 have e:(kvs.any fun kv=>decide (kv.1=k))=(atKey xs k).isSome:=by
  rw [zh2,(r.val k).isSome_eq,Option.isSome_map]
 unfold putK storedH
 rw [e]
 by_cases q:(atKey xs k).isSome=true
 .rw [if_pos q,if_pos q];exact r.repl k ry
 .rw [if_neg q,if_neg q];exact Paired.snoc r ⟨rfl,hb,ry⟩
theorem KT.keeps {H H':Hp} {kvs:List (List Key×V)} {xs:List (List Key×Addr×Value)} (r:KT H kvs xs) (ht:∀ b ys,H b=some (.tup ys)->H' b=some (.tup ys)):KT H' kvs xs :=
 Paired.mapP r fun _ _ z=>⟨z.1,ht _ _ z.2.1,z.2.2⟩
section
variable {P : Program} {w : World} {H : Hp} {h : Heap} {a : Addr}
theorem zpH {u:HO} (ok:HOk P w H h) (e:Rd H a u):zbn P w H h a u:=e.ok ok
theorem zmP {kvs:List (Key×V)} (ok:HOk P w H h) (e:Rd H a (.dK kvs)):kvs.length<=sizeLine/\(a==sysModules)=false/\∃ vs,KV kvs vs/\h.DictOf (zaS P w) a vs :=
 show zbn P w H h a (.dK kvs) from zpH ok e
theorem zqX {kvs:List (Key×V)} (ok:HOk P w H h) (e:H a=some (.dK kvs)):kvs.length<=sizeLine/\(a==sysModules)=false/\∃ vs,KV kvs vs/\h.DictOf (zaS P w) a vs:=zmP ok (.inl e)
theorem zkC {ks:List Key} (ok:HOk P w H h) (e:H a=some (.tup (ks.map kV))):(tupleKind (zaS P w)).is h ks a:=by
 obtain ⟨_,its,r,o,h1,h2,n,h3⟩:=(show zbn P w H h a (.tup (ks.map kV)) from ok a _ e)
 exact ⟨o,its.toArray,n,h1,h2,h3,by simpa using zgN r⟩
theorem zoV {kvs:List (List Key×V)} (ok:HOk P w H h) (e:Rd H a (.dT kvs)):kvs.length<=sizeLine/\(a==sysModules)=false /\
  ∃ xs,KT H kvs xs/\h.DictOfH (tupleKind (zaS P w)) a xs:=by
 obtain ⟨z,y,xs,r,o,es,ep,h1,h2,h3,h4,h5⟩:=(show zbn P w H h a (.dT kvs) from zpH ok e)
 refine ⟨z,y,xs,r,o,es,ep,h1,h2,h3,h4,fun x hx=>?_,h5⟩
 have all:∀ {l:List (List Key×V)} {m:List (List Key×Addr×Value)},KT H l m->∀ x∈m,(tupleKind (zaS P w)).is h x.1 x.2.1:=by
  intro l m q
  induction q with
  |nil=>intro x hx;exact nomatch hx
  | @cons p q ps qs hq t ih =>
   intro x hx
   rcases List.mem_cons.mp hx with e | hx
   .subst e
    exact zkC ok (by rw [← hq.1];exact hq.2.1)
   .exact ih x hx
 exact all r x hx
theorem dt_of {kvs:List (List Key×V)} (ok:HOk P w H h) (e:H a=some (.dT kvs)):kvs.length<=sizeLine/\(a==sysModules)=false /\
  ∃ xs,KT H kvs xs/\h.DictOfH (tupleKind (zaS P w)) a xs:=zoV ok (.inl e)
end
def DGet (H:Hp) (a:Addr) (y:V) (r:Option V):Prop :=
 (∃ kvs k,Rd H a (.dK kvs)/\y=kV k/\r=valV kvs k)\/∃ kvs k b,Rd H a (.dT kvs)/\y=.ref b/\H b=some (.tup (k.map kV))/\r=valV kvs k
def DPut (H:Hp) (a:Addr) (y v:V) (H':Hp):Prop :=
 (∃ kvs k,H a=some (.dK kvs)/\y=kV k/\kvs.length<sizeLine/\H'=upd H a (.dK (putK kvs k v))) \/
 ∃ kvs k b,H a=some (.dT kvs)/\y=.ref b/\H b=some (.tup (k.map kV))/\kvs.length<sizeLine/\H'=upd H a (.dT (putK kvs k v))
section
variable {X : Cx} {pins : List (Addr × Obj)} {σ : St} {H : Hp} {s : Shared} {a : Addr} {y v : V} {u r : Value} {o : Option V} {A : Around} {E : Value → Shared → Prop}
theorem Inv.big (I:Inv X pins σ H s):sysModules<s.heap.objs.size:=by
 have h:mainGlobals<s.heap.objs.size:=(I.mod.glob.keeps I.bk).lt
 exact Nat.lt_trans (by decide) h
theorem zkY {Q:Value->Shared->Prop} (hu:A.units+1<cLine) (I:Inv X pins σ H s) (g:DGet H a y (some v)) (ry:RelV y u) (h:∀ w' s',Inv X pins σ H s'->RelV v w'->Q w' s') :
  wpAny (model X.prog X.w) A (getItem (.ref a) u) Q E s:=by
 rcases g with ⟨kvs,k,e,ey,l⟩ | ⟨kvs,k,b,e,ey,eb,l⟩
 .subst ey
  obtain ⟨z,hd,vs,rel,dd⟩:=zmP I.hok e
  obtain ⟨w',hw,rw'⟩:=RelO.some_of (v:=v) (o:=valueAt vs k) (by rw [l];exact rel.val k)
  exact wpAny_getItem_of (zmr ry) dd.mapOf hw (h w' _ (I.tok _) rw')
 .subst ey
  cases (show u=Value.ref b from ry)
  obtain ⟨z,hd,xs,rel,dd⟩:=zoV I.hok e
  obtain ⟨w',hw,rw'⟩:=RelO.some_of (v:=v) (o:=(atKey xs k).map (·.2)) (by rw [l];exact rel.val k)
  obtain ⟨p,hp,hp2⟩:=Option.map_eq_some_iff.mp hw
  refine wpAny_getItem_heap (tupleKind_room_in1 hu) (zkC I.hok eb) dd hp ?_
  rw [hp2]
  exact h w' _ (I.tok _) rw'
theorem zhO {h':Heap} {t':Nat} {ob:HO} (I:Inv X pins σ H s) (mu:Mut (H a)) (hs:Heap.SameBut a s.heap h') (he:∃ q,h'.get? a=some q) (new:zbn X.prog X.w (upd H a ob) h' a ob) :
  Inv X pins σ (upd H a ob) { s with heap:=h',toks:=t' } :=
 I.write (x:=a) (e:=a) mu (.inl rfl) (fun b q hb z=>(hs.2 b hb).trans z) he new
theorem znr {P:Program} {w:World} {H':Hp} {h':Heap} {kvs:List (Key×V)} {vs:List (Key×Value)} (z:kvs.length<=sizeLine) (hd:(a==sysModules)=false) (rel:KV kvs vs) (dd:h'.DictOf (zaS P w) a vs) :
  zbn P w H' h' a (.dK kvs):=⟨z,hd,vs,rel,dd⟩
theorem zkX {H':Hp} {Q:Unit->Shared->Prop} (hu:A.units+1<cLine) (I:Inv X pins σ H s) (g:DPut H a y v H') (ry:RelV y u) (rv:RelV v r) (h:∀ s',Inv X pins σ H' s'->Q () s') :
  wpAny (model X.prog X.w) A (setItem (.ref a) u r) Q E s:=by
 rcases g with ⟨kvs,k,e,ey,l,eH⟩ | ⟨kvs,k,b,e,ey,eb,l,eH⟩
 .subst ey eH
  obtain ⟨z,hd,vs,rel,dd⟩:=zqX I.hok e
  have hz:vs.length<=sizeLine:=by rw [← rel.length];exact z
  have hl:(putK kvs k v).length<=sizeLine:=by have:=zcG kvs k v;omega
  refine wpAny_setItem_pairs (hsz:=hz) (zmr ry) dd fun h' dd' hs=>h _ ?_
  have he:∃ q,h'.get? a=some q:=let ⟨q,_,_,hq,_⟩:=dd';⟨q,hq⟩
  exact zhO I (by rw [e];exact True.intro) hs he (znr hl hd (rel.put k rv) dd')
 .subst ey eH
  cases (show u=Value.ref b from ry)
  obtain ⟨z,hd,xs,rel,dd⟩:=dt_of I.hok e
  have hz:xs.length<=sizeLine:=by rw [← Paired.length rel];exact z
  have hl:(putK kvs k v).length<=sizeLine:=by have:=zcG kvs k v;omega
  refine wpAny_setItem_heap (hsz:=hz) (tupleKind_room_in1 hu) (zkC I.hok eb) dd fun h' dd' hs=>h _ ?_
  obtain ⟨q,es,ep,hq,h2,h3,h4,_,h5⟩:=dd'
  refine zhO I (by rw [e];exact True.intro) hs ⟨q,hq⟩ ⟨hl,hd,_,(rel.put k eb rv).keeps fun c ys ec=>?_,q,es,ep,hq,h2,h3,h4,h5⟩
  rw [zam (ne_of ec e (fun z=>nomatch z))]
  exact ec
end
section
variable {X : Cx} {pins : List (Addr × Obj)} {σ : St} {H : Hp} {s : Shared} {a : Addr} {kvs : List (Key × V)} {k : Key} {u : Value} {A : Around} {E : Value → Shared → Prop}
theorem d_len {Q:Value->Shared->Prop} (I:Inv X pins σ H s) (e:Rd H a (.dK kvs)) (h:∀ t s',Inv X pins σ H s'->Q (.int kvs.length t) s'):wpAny (model X.prog X.w) A (call (.builtin "len") [.ref a]) Q E s:=by
 obtain ⟨z,hd,vs,rel,dd⟩:=zmP I.hok e
 refine call_len_dict hd dd (by rw [← rel.length];rw [sizeLine_eq] at z;omega) ?_
 rw [← rel.length]
 exact h _ _ (I.tok _)
end
def NoSl (i:Expr):Prop:=∀ ov iv,subscripted i false ov iv=operate [ov,iv] (getItem ov iv)
def tDGet (td ty:TE):TE:=fun σ H Q=>td σ H fun x H1=>ty σ H1 fun y H2=>∃ a v,x=.ref a/\DGet H2 a y (some v)/\Q v H2
def tDIn (ty td:TE):TE:=fun σ H Q=>ty σ H fun y H1=>td σ H1 fun x H2=>∃ a o,x=.ref a/\DGet H2 a y o/\Q (.bl o.isSome) H2
def tDNotIn (ty td:TE):TE:=fun σ H Q=>ty σ H fun y H1=>td σ H1 fun x H2=>∃ a o,x=.ref a/\DGet H2 a y o/\Q (.bl (!o.isSome)) H2
def sDPut (td ty tv:TE):TS:=fun D σ H=>tv σ H fun v H1=>td σ H1 fun x H2=>ty σ H2 fun y H3=>∃ a H4,x=.ref a/\DPut H3 a y v H4/\D.nx σ H4
def sDAug (td ty tv:TE) (rd:V->V->Hp->VK->Prop):TS:=fun D σ H=>td σ H fun x H1=>ty σ H1 fun y H2=>∃ a v,x=.ref a/\DGet H2 a y (some v) /\
 tv σ H2 fun y2 H3=>rd v y2 H3 fun z H4=>∃ H5,DPut H4 a y z H5/\D.nx σ H5
def sDDel (td ty:TE):TS:=fun D σ H=>td σ H fun x H1=>ty σ H1 fun y H2=>∃ a kvs k,x=.ref a/\H2 a=some (.dK kvs)/\y=kV k/\(valV kvs k).isSome=true/\D.nx σ (upd H2 a (.dK (zoW kvs k)))
section
variable {X : Cx} {o i e value : Expr} {pos pos' tpos : Pos} {td ty tv : TE}
end
theorem zmQ {P:Program} {w:World} {H:Hp} (h:Heap) (hb:sysModules<h.objs.size):zbn P w H (h.push { cls:=.type "dict", data:=.dict #[] }) h.objs.size (.dK []) :=
 ⟨Nat.zero_le _,beq_eq_false_iff_ne.mpr (Ne.symm (Nat.ne_of_lt hb)),[],.nil,Heap.DictOf.new h⟩
def tDNewK:TE:=fun _ H Q=>∀ p,H p=none->Q (.ref p) (upd H p (.dK []))
def tDNewT:TE:=fun _ H Q=>∀ p,H p=none->Q (.ref p) (upd H p (.dT []))
section
variable {X : Cx} {pos : Pos}
end
def zh6:List (TE×TE)->St->Hp->(List (V×V)->Hp->Prop)->Prop
 | [],_,H,Q=>Q [] H
 | (tk,tv)::r,σ,H,Q=>tk σ H fun x H1=>tv σ H1 fun y H2=>zh6 r σ H2 fun ps H3=>Q ((x,y)::ps) H3
abbrev VV:List (V×V)->List (Value×Value)->Prop:=Paired fun p q=>RelV p.1 q.1/\RelV p.2 q.2
def PPs (X:Cx) (pos:Pos) (keys:List (Option Expr)) (values:List Expr) (trs:List (TE×TE)):Prop :=
 ∀ (pins:List (Addr×Obj)) (s:Shared) (σ:St) (H:Hp) (Q:List (V×V)->Hp->Prop),Inv X pins σ H s->zh6 trs σ H Q ->
  wpAny (model X.prog X.w) X.A (evalPairs (pairTrees keys values X.env pos)) (fun vs s'=>∃ ps H',Inv X pins σ H' s'/\VV ps vs/\Q ps H') X.xe s
theorem znY {X:Cx} {pos:Pos}:PPs X pos [] [] []:=fun pins s σ H Q I h=>pairTrees_nil_walk ⟨[],H,I,.nil,h⟩
theorem zlT {X:Cx} {pos:Pos} {k v:Expr} {ks:List (Option Expr)} {vs:List Expr} {tk tv:TE} {trs:List (TE×TE)} (hk:PE X k tk) (hv:PE X v tv) (hr:PPs X pos ks vs trs) :
  PPs X pos (some k::ks) (v::vs) ((tk,tv)::trs):=fun pins s σ H Q I h =>
 pairTrees_cons_walk (thn (hk pins s σ H _ I h) fun u s1 ⟨x,H1,I1,rx,q1⟩=>thn (hv pins s1 σ H1 _ I1 q1) fun w2 s2 ⟨y,H2,I2,ry,q2⟩ =>
  thn (hr pins s2 σ H2 _ I2 q2) fun ws s3 ⟨ps,H3,I3,rel,q3⟩=>⟨(x,y)::ps,H3,I3,.cons ⟨rx,ry⟩ rel,q3⟩)
def zeH (kvs more:List (Key×V)):List (Key×V):=more.foldl (fun acc kv=>putK acc kv.1 kv.2) kvs
theorem KV.merge:∀ {more:List (Key×V)} {rs:List (Key×Value)} {kvs:List (Key×V)} {vs:List (Key×Value)},KV more rs->KV kvs vs->KV (zeH kvs more) (merged vs rs):=by
 intro more rs kvs vs r
 unfold KV at r
 induction r generalizing kvs vs with
 |nil=>intro q;exact q
 | @cons p q ps qs h t ih =>
  intro r0
  have e:KV (putK kvs p.1 p.2) (stored vs q.1 q.2):=by
   have:=r0.put p.1 h.2
   rw [← h.1];exact this
  exact ih e
theorem zcZ:∀ (more kvs:List (Key×V)),(zeH kvs more).length<=kvs.length+more.length
 | [],kvs=>by show kvs.length<=kvs.length+0;omega
 |p::r,kvs=>by
  have h1:=zcZ r (putK kvs p.1 p.2)
  have h2:=zcG kvs p.1 p.2
  show (zeH (putK kvs p.1 p.2) r).length<=_
  rw [List.length_cons];omega
theorem zeV {P:Program} {w:World}:∀ {kvs:List (Key×V)} {ws:List (Value×Value)},VV (kvs.map fun kv=>(kV kv.1,kv.2)) ws->∃ rs,Carries (zaS P w) ws rs/\KV kvs rs
 | [],_,r=>by rw [List.map_nil] at r;cases r;exact ⟨[],True.intro,.nil⟩
 |p::kvs,_,r=>by
  rw [List.map_cons] at r
  cases r with
  | @cons a b as bs h t =>
   obtain ⟨rs,c,q⟩:=zeV (P:=P) (w:=w) t
   obtain ⟨b1,b2⟩:=b
   exact ⟨(p.1,b2)::rs,⟨zmr h.1,rfl,c⟩,.cons ⟨rfl,h.2⟩ q⟩
def tDisp (trs:List (TE×TE)):TE:=fun σ H Q=>∀ p,H p=none->zh6 trs σ (upd H p (.dK [])) fun ps H2=>H2 p=some (.dK [])/\∃ kvs:List (Key×V),ps=kvs.map (fun kv=>(kV kv.1,kv.2))/\kvs.length<=15/\Q (.ref p) (upd H2 p (.dK (zeH [] kvs)))
theorem zn4 {X:Cx} {pos:Pos} {keys:List (Option Expr)} {values:List Expr} {trs:List (TE×TE)} (h:PPs X pos keys values trs) (hall:keys.all (·.isSome)=true) (hl:keys.length=values.length) (h0:keys≠[])
  (h15:keys.length<=15):PE X (.Dict keys values pos) (tDisp trs):=by
 intro pins s σ H Q I q
 have hn:=I.hok.fresh (Nat.le_refl s.heap.objs.size)
 have I1:=I.laid (a:=s.heap.objs.size) (o:=.dK []) (h':=s.heap.push { cls:=.type "dict", data:=.dict #[] }) (t':=s.toks) (fun _ _ q=>Heap.get?_push_of_some _ q) (Nat.le_refl _) (zmQ s.heap I.big)
 refine wpAny_Dict_walk (knd:=zaS X.prog X.w) hall hl h0 h15 (thn (h pins _ σ _ _ I1 (q _ hn)) fun ws s2 ⟨ps,H2,I2,rel,e,kvs,ep,lk,q2⟩=>?_)
 subst ep
 obtain ⟨rs,c,rk⟩:=zeV (P:=X.prog) (w:=X.w) rel
 obtain ⟨z,hd,vs0,r0,dd⟩:=zqX I2.hok e
 cases r0
 refine ⟨rs,c,dd,fun h' dd' hs=>⟨.ref s.heap.objs.size,_,?_,rfl,q2⟩⟩
 have hz:(zeH [] kvs).length<=sizeLine:=by
  have h1:=zcZ kvs []
  rw [List.length_nil] at h1
  rw [sizeLine_eq];omega
 have he:∃ q,h'.get? s.heap.objs.size=some q:=let ⟨q,_,_,hq,_⟩:=dd';⟨q,hq⟩
 exact zhO I2 (by rw [e];exact True.intro) hs he (znr hz hd (rk.merge .nil) dd')
structure M1 (X:Cx) (o:Expr) (m:Str) (apos:Pos) (e:Expr) (cpos:Pos):Prop where
 base:attributeBase o m X.env (eval o X.env)=eval o X.env
 few:((backTo cpos (starEach [e] X.env)).all (fun x=>!x.1)&&(backToKw cpos (keywordEach [] X.env)).all (fun x=>x.1.isSome)
  && decide (([e]:List Expr).length+([]:List Keyword).length+(if ([]:List Keyword).isEmpty then 0 else 1)<30))=true
 line:(apos.endLine==cpos.line)=true
 trees:backTo cpos (starEach [e] X.env)=[(false,eval e X.env)]
structure M2 (X:Cx) (o:Expr) (m:Str) (apos:Pos) (e f:Expr) (cpos:Pos):Prop where
 base:attributeBase o m X.env (eval o X.env)=eval o X.env
 few:((backTo cpos (starEach [e,f] X.env)).all (fun x=>!x.1)&&(backToKw cpos (keywordEach [] X.env)).all (fun x=>x.1.isSome)
  && decide (([e,f]:List Expr).length+([]:List Keyword).length+(if ([]:List Keyword).isEmpty then 0 else 1)<30))=true
 line:(apos.endLine==cpos.line)=true
 trees:backTo cpos (starEach [e,f] X.env)=[(false,eval e X.env),(false,eval f X.env)]
def IsD (H:Hp) (a:Addr):Prop:=(∃ kvs,Rd H a (.dK kvs))\/∃ kvs,Rd H a (.dT kvs)
theorem zqN {X:Cx} {pins:List (Addr×Obj)} {σ:St} {H:Hp} {s:Shared} {a:Addr} (I:Inv X pins σ H s) (d:IsD H a) :
  s.TypeIs (.ref a) "dict" /\ (∀ b,Value.ref a=.ref b->∃ ob,s.heap.get? b=some ob/\ob.dict=none)/\(a==sysModules)=false:=by
 rcases d with ⟨kvs,e⟩ | ⟨kvs,e⟩
 .obtain ⟨_,hd,vs,_,dd⟩:=zmP I.hok e
  refine ⟨dd.typeIs,fun b q=>?_,hd⟩
  cases q
  obtain ⟨ob,_,_,h1,h2,_⟩:=dd
  exact ⟨ob,h1,h2.2.1⟩
 .obtain ⟨_,hd,xs,_,dd⟩:=zoV I.hok e
  refine ⟨dd.typeIs,fun b q=>?_,hd⟩
  cases q
  obtain ⟨ob,_,_,h1,h2,_⟩:=dd
  exact ⟨ob,h1,h2.2.1⟩
section
variable {X : Cx} {pins : List (Addr × Obj)} {σ : St} {H : Hp} {s : Shared} {a : Addr} {y d : V} {u r : Value} {o : Option V} {A : Around} {E : Value → Shared → Prop}
end
def tDGet1 (td ty:TE):TE:=fun σ H Q=>td σ H fun x H1=>∃ a,x=.ref a/\IsD H1 a/\ty σ H1 fun y H2=>∃ o,DGet H2 a y o/\Q (o.getD .non) H2
def tDGet2 (td ty tx:TE):TE:=fun σ H Q=>td σ H fun x H1=>∃ a,x=.ref a/\IsD H1 a/\ty σ H1 fun y H2=>tx σ H2 fun z H3=>∃ o,DGet H3 a y o/\Q (o.getD z) H3
def tDPop1 (td ty:TE):TE:=fun σ H Q=>td σ H fun x H1=>∃ a,x=.ref a/\IsD H1 a/\ty σ H1 fun y H2=>∃ kvs k v,H2 a=some (.dK kvs)/\y=kV k/\valV kvs k=some v/\Q v (upd H2 a (.dK (zoW kvs k)))
def tDPop2 (td ty tx:TE):TE:=fun σ H Q=>td σ H fun x H1=>∃ a,x=.ref a/\IsD H1 a/\ty σ H1 fun y H2=>tx σ H2 fun z H3=>∃ kvs k,H3 a=some (.dK kvs)/\y=kV k /\
 (∀ v,valV kvs k=some v->Q v (upd H3 a (.dK (zoW kvs k))))/\(valV kvs k=none->Q z H3)
section
variable {X : Cx} {o e f : Expr} {apos cpos : Pos} {td ty tx : TE}
end
section
variable {X : Cx} {pins : List (Addr × Obj)} {σ : St} {H : Hp} {s : Shared} {a : Addr} {kvs : List (Key × V)} {A : Around} {E : Value → Shared → Prop}
end
section
variable {X : Cx} {pins : List (Addr × Obj)} {σ : St} {H : Hp} {s : Shared} {a : Addr} {y : V} {u : Value} {A : Around} {E : Value → Shared → Prop}
end
end L2
namespace Att
open PySem PySem.W PySem.Calls PyProof.Rows
theorem zd2 {P:Params} {h:Heap}:∀ (ns:List Int) (vs:List Value),WellAll P h vs (ns.map WData.int)->IntsAre vs ns:=by
 intro ns
 induction ns with
 |nil =>
  intro vs w
  rw [List.map_nil] at w
  cases w
  exact .nil
 |cons n ns ih =>
  intro vs w
  rw [List.map_cons] at w
  cases w with
  |cons a b =>
   cases a
   exact .cons _ _ (ih _ b)
theorem zjY {l:OpenLaw} {n:Nat} (hn:l.most=some n) {P:Params} {h:Heap} {args:List WData} {vals:List Value}
  (hpre:l.row.toRowW.claim.pre args=true) (hwl:WellAll P h vals args) :
  ∃ a vs ns,vals=[Value.ref a]/\args=[WData.list (ns.map WData.int)]/\h.get? a=some { cls:=.type "list", data:=.seq vs.toArray }/\IntsAre vs ns/\ns.length<=n:=by
 have hsh:WShape.hasAll [] args [.list .int]=true:=(pre_splitW hpre).1
 have hc:l.pre.holds [] { args:=args }=true:=(pre_splitW hpre).2
 obtain ⟨d,r,rfl,h1,h2⟩:=hasAllW_cons hsh
 obtain rfl:=hasAllW_nil h2
 obtain ⟨xs,rfl,h3⟩:=hasW_list h1
 obtain ⟨ns,rfl⟩:=items_int h3
 have hlen:ns.length<=n:=by
  unfold OpenLaw.pre at hc
  have h4:(WTm.not (.lt (.lit (.int (n:Int))) (.len (.arg 0)))).holds [] { args:=[.list (ns.map .int)] }=true:=by
   have h4:=(holds_andW hc).1
   rw [hn] at h4
   exact h4
  have h5:=condW_of h4 (w_not (w_lt w_lit (w_len_list (w_arg rfl))))
  rw [List.length_map] at h5
  refine Nat.le_of_not_lt fun q=>?_
  have q':(n:Int)<((ns.length:Nat):Int):=by omega
  first
   | (rw [decide_eq_true q'] at h5;exact absurd h5 (by decide))
   | (simp at h5;omega)
 cases hwl with
 |cons w1 w2 =>
  cases w2
  cases w1 with
  |list ho hall=>exact ⟨_,_,ns,rfl,rfl,ho,zd2 ns _ hall,hlen⟩
theorem zkc (l:OpenLaw) (args:List WData):l.row.toRowW.claim.post args (.bool true) args=true :=
 postW_of (r:=l.row.toRowW) (X:=(true==true))
  (show WShape.has [] (.bool true) .bool=true by first | rfl | decide | simp [WShape.has,WShape.arms,WShape.armsAll])
  (show (WTm.eq .res (.lit (.bool true))).value [] { args:=args,res:=some (.bool true),after:=args }=some (.bool (true==true)) from w_eq_bool (w_res rfl) w_lit) rfl
theorem attach_call {l:OpenLaw} {n:Nat} {q:Program} {loose:List Str} {XP:(Str->Option Value)->Heap->Prop} {YP:World->Heap->Prop} {d:DefRec}
  (hn:l.most=some n) (hdf:d.params.defaults=[])
  (call:∀ (w:World) (s₀ s₁:Shared) (mg mb:Str->Option Value) (fa:Addr) (o:Obj) (pm cd doc:Value) (a:Addr) (vs:List Value) (ns:List Int),
   Ground q loose [] XP w s₀ mg mb s₁.heap->YP w s₁.heap ->
   s₁.heap.get? fa=some o->o.data=.func (docDef d.name d.params d.body d.scope pm cd doc)->s₁.heap.CodeRec cd d.name->mg d.name=some (.ref fa) ->
   s₁.heap.get? a=some { cls:=.type "list", data:=.seq vs.toArray }->IntsAre vs ns->ns.length<=n->s₁.gens=#[] ->
   codeAny (model l.prog w) callerA (.call (.ref fa) ⟨[.ref a],[]⟩) (fun r s'=>r=.ok (.ret (.bool true))/\OldK s₁.heap s'.heap/\s'.os=s₁.os/\AllBare s'.gens) s₁) :
  WalkO q loose XP YP l.row.toRowW d [] (fun f vs=>PySem.call f vs):=by
 intro w s₀ s₁ mg mb G Y fa o pm cd doc dV kV ho hd hcd hD hmg hg args vals as hpre hlay hrd hwl hlo
 obtain rfl:dV=.none:=Dflts.none hD hdf
 obtain rfl:kV=.none:=Dflts.noKw hD
 obtain ⟨a,vs,ns,rfl,rfl,hobj,hints,hlen⟩:=zjY hn hpre hwl
 refine enter_call (codeAny_mono (call w s₀ s₁ mg mb fa o pm cd doc a vs ns G Y ho (fd_plain hd) hcd hmg hobj hints hlen hg) fun r s' hq=>?_)
 obtain ⟨rfl,h2,h3,h4⟩:=hq
 exact ⟨.inl ⟨.bool true,.bool true,[],rfl,fun _=>rfl,.bool true,zkc l _,fun _=>⟨List.Pairwise.nil,fun _ hm=>(nomatch hm)⟩⟩,h2,h3,h4⟩
section
variable {prog : Program} {w : World} {A : Around} {E : Value → Shared → Prop} {s : Shared} {K : Frag}
def noObjs (h:Heap):Heap:={ h with objs:=#[] }
def ledger (h:Heap) (L d:Addr):List (Addr×Obj):=(List.range h.objs.size).filterMap fun a=>if a=L\/a=d then none else (h.get? a).map fun o=>(a,o)
end
end Att
namespace L2
open PySem PySem.Spec PyProof.Rows
theorem zfO:∀ {vs:List Value} {ns:List Int},IntsAre vs ns->Vals (ns.map V.int) vs
 |_,_,.nil=>.nil
 |_,_,.cons n t h=>.cons ⟨t,rfl⟩ (zfO h)
def Only (H:Hp):Prop:=∀ b,H b=none\/∃ o xs,H b=some (.frz o (.lst xs))
theorem zmm {P:Program} {w:World} {K:PySem.W.Frag} {mg mb:Str->Option Value} {CX:CXT} {k:Nat} {fa a:Addr} {fd:FuncData} {x:Str} {sp:Sp} {s₁:Shared} {vs:List Value} {ns:List Int}
  (KX:K.In s₁.heap) (hns:s₁.heap.Ns mainGlobals mg) (hb:s₁.heap.Ns builtinsNs mb) (hbb:∀ x:Str,x ≠ "__name__" -> mb x=bootBuiltins x) (hlim:s₁.heap.NoLimit) (hg:s₁.gens=#[])
  (ha:s₁.heap.get? a=some { cls:=.type "list", data:=.seq vs.toArray }) (hi:IntsAre vs ns) (hl:ns.length<=sizeLine) (hr:Room k callerA)
  (F:∀ base:Heap,K.In base->base.Ns mainGlobals mg->FnOk P w K mg base CX k fa fd [x] sp) (hbind:∀ (s:Shared) (u:Value),BindsTo s fd ⟨[u],[]⟩ [(x,u)])
  (hsp:∀ H:Hp,Only H->SqL K H a (ns.map V.int)->sp [.ref a] H (fun v _=>v=.bl true) fun _ _ _=>False)
  (hCX:∀ H e s',CX [] H s₁ (fun _ _ _=>False) e s'->False) :
  codeAny (model P w) callerA (.call (.ref fa) ⟨[.ref a],[]⟩) (fun r s'=>r=.ok (.ret (.bool true))/\OldK s₁.heap s'.heap/\s'.os=s₁.os/\AllBare s'.gens) s₁:=by
 have rv:=zfO hi
 have lenV:=hi.length
 have core:∀ H:Hp,Only H->SqL K H a (ns.map V.int)->HOk P w H s₁.heap->(∀ b,H b≠none->b=a)->(H a≠none->K.lookup a=none) ->
   codeAny (model P w) callerA (.call (.ref fa) ⟨[.ref a],[]⟩) (fun r s'=>r=.ok (.ret (.bool true))/\OldK s₁.heap s'.heap/\s'.os=s₁.os/\AllBare s'.gens) s₁:=by
  intro H hO hS hok hA hK
  have base_of:∀ {b:Addr} {o:Obj},s₁.heap.get? b=some o->H b=none->(hidT s₁.heap H).get? b=some o:=fun e n=>zmC e n
  have noA:∀ {b:Addr} {o:Obj} {es:Array DictEntry} {ep:Nat},s₁.heap.get? b=some o->o.data=.dict es ep->H b=none:=fun {b o es ep} e d=>by
   cases q:H b with
   |none=>rfl
   |some u =>
    have e':b=a:=hA b (by rw [q];simp)
    subst e'
    rw [ha] at e;cases e
    have d':Data.seq vs.toArray _=Data.dict es ep:=d
    cases d'
  have nsK:∀ {b:Addr} {m:Str->Option Value},s₁.heap.Ns b m->(hidT s₁.heap H).Ns b m:=fun {b m} ⟨o,es,ep,e,d,r⟩=>⟨o,es,ep,base_of e (noA e d),d,r⟩
  have hKb:K.In (hidT s₁.heap H):=fun b o e=>base_of (KX b o e) (by
   cases q:H b with
   |none=>rfl
   |some u =>
    have e':b=a:=hA b (by rw [q];simp)
    subst e'
    rw [hK (by rw [q];simp)] at e;cases e)
  have hM:Mod K mg (hidT s₁.heap H):=⟨hKb,nsK hns,⟨mb,nsK hb,hbb⟩,let ⟨mc,h1,h2⟩:=hlim;⟨mc,nsK h1,h2⟩⟩
  have e0:Env0 P w K mg (hidT s₁.heap H) callerA [] s₁ H:=⟨rfl,hM,fun b o e=>zoc e,Nat.le_of_eq (zkJ _ _),trivial,fun b hb=>absurd (show b∈([]:List Addr) from hb) (by simp),hok,.of_eq hg⟩
  refine codeAny_mono ((F _ hKb (nsK hns)).run callerA [] s₁ H ⟨[.ref a],[]⟩ [.ref a] [.ref a] _ _ hr e0 (hbind s₁ (.ref a)) (.cons rfl .nil) (hsp H hO hS)) fun r s' h=>?_
  cases r with
  |error e=>exact (hCX H e s' h).elim
  |ok fl =>
   cases fl with
   |next=>exact False.elim h
   |brk=>exact False.elim h
   |cont=>exact False.elim h
   |ret u =>
    obtain ⟨v,H',os,bare,un,hok',r',q⟩:=h
    have q':v=.bl true:=q
    subst q'
    obtain rfl:u=Value.bool true:=r'
    refine ⟨rfl,OldK.of_keep fun b o e=>?_,os,bare⟩
    cases q:H b with
    |none=>exact un.keep b o e q (by intro z;exact absurd (show b∈([]:List Addr) from z) (by simp)) (by simp)
    |some u =>
     rcases hO b with z | ⟨ob,xs,z⟩
     .rw [q] at z;cases z
     .have z2:=un.frzs b ob _ z
      obtain ⟨e1,_⟩:=hok b _ z
      obtain ⟨e2,_⟩:=hok' b _ z2
      rw [e] at e1;cases e1
      exact e2
 cases hk:K.lookup a with
 |some o =>
  have e:=KX a o hk
  rw [ha] at e
  cases e
  refine core (fun _=>none) (fun _=>.inl rfl) (.inr ⟨_,vs.toArray,_,hk,rfl,rfl,rfl,by rw [List.size_toArray,lenV];exact hl,by simpa using rv⟩) (fun b u z=>by have z':(none:Option HO)=some u:=z;cases z') (fun b z=>absurd rfl z) fun z=>absurd rfl z
 |none =>
  refine core (fun b=>if b=a then some (.frz { cls:=.type "list", data:=.seq vs.toArray } (.lst (ns.map V.int))) else none) (fun b=>?_) (.inl (.inr ⟨{ cls:=.type "list", data:=.seq vs.toArray },if_pos rfl⟩)) (fun b u z=>?_) (fun b z=>?_) fun _=>hk
  .by_cases hb:b=a
   .exact .inr ⟨_,_,if_pos hb⟩
   .exact .inl (if_neg hb)
  .by_cases hb:b=a
   .have z':=(if_pos hb).symm.trans z
    cases z'
    subst hb
    exact ⟨ha,by rw [List.length_map];exact hl,vs,_,rv,ha⟩
   .have z':=(if_neg hb).symm.trans z
    cases z'
  .by_cases hb:b=a
   .exact hb
   .exact absurd (if_neg hb) z
end L2
namespace L2
open PySem PySem.Spec PyProof.Rows
abbrev KOf {K:PySem.W.Frag} {h:Heap} (_:K.In h):PySem.W.Frag:=K
theorem walk_of {l:PySem.W.OpenLaw} {n k:Nat} {q:Program} {loose:List Str} {XP:(Str->Option Value)->Heap->Prop} {YP:World->Heap->Prop} {d:DefRec} {K:Params->PySem.W.Frag} {CX:World->CXT} {sp:World->Sp} {x:Str}
  (hn:l.most=some n) (hn2:n<=sizeLine) (hdf:d.params.defaults=[]) (hr:Room k callerA)
  (hY:∀ (w:World) (h:Heap),YP w h->(K w.params).In h)
  (F:∀ (w:World) (mg:Str->Option Value) (fa:Addr) (h:Heap),(K w.params).In h->h.Ns mainGlobals mg->mg d.name=some (.ref fa) ->
   ∃ fd:FuncData,(∀ (s:Shared) (u:Value),BindsTo s fd ⟨[u],[]⟩ [(x,u)]) /\
    ∀ base:Heap,(K w.params).In base->base.Ns mainGlobals mg->FnOk l.prog w (K w.params) mg base (CX w) k fa fd [x] (sp w))
  (hsp:∀ (w:World) (H:Hp) (a:Addr) (ns:List Int),ns.length<=n->Only H->SqL (K w.params) H a (ns.map V.int)->sp w [.ref a] H (fun v _=>v=.bl true) fun _ _ _=>False)
  (hCX:∀ (w:World) (H:Hp) (s:Shared) (e:Value) (s':Shared),CX w [] H s (fun _ _ _=>False) e s'->False) :
  PySem.W.WalkO q loose XP YP l.row.toRowW d [] (fun f vs=>PySem.call f vs):=by
 refine Att.attach_call hn hdf fun w s₀ s₁ mg mb fa o pm cd doc a vs ns G Y ho hd hcd hmg hobj hints hlen hg=>?_
 have KX:=hY w _ Y
 obtain ⟨fd,hb,hF⟩:=F w mg fa _ KX G.T.g hmg
 exact zmm KX G.T.g G.T.b G.T.builtins G.T.nolimit hg hobj hints (Nat.le_trans hlen hn2) hr hF hb (fun H hO hS=>hsp w H a ns hlen hO hS) fun H e s'=>hCX w H s₁ e s'
end L2
/- THE LAST THEOREM (shape;LID,My.* are yours):
   My.Adr: a structure of the addresses that your layer names (classes,functions);My.Txt K t: a structure (Prop) of the equations over K;
   My.txt_mk:{K} {implicit addresses ..} (e1:nsIn K mainGlobals "law" = some (some (.ref f))) (e2:K.lookup f=some ⟨oc,od,.func (fnOf "law" "law" params body scope dV kV doc pm an cdv ct),sl⟩) (e3:codeIn K cdv "law" = true) ..:∃ t,My.Txt K t
set_option maxRecDepth 100000 in
set_option maxHeartbeats 0 in
theorem PySem.Challenge.cw_LID_holds : PySem.Challenge.rw_LID.Holds := by
 w_on;o_law;k_head;(case hw=>w_witness2)
 k_fill
 refine L2.walk_of (l:=PySem.Challenge.rw_LID) (n:=63) (k:=40) (x := "script") (CX:=fun w=>..) (sp:=fun _=>My.sp_law) rfl (by decide) rfl ⟨rfl,by decide,by decide⟩ (fun w h Y=>PySem.W.kIn_of Y) ?F ?S ?C
 case F =>
  intro w mg fa h KX G hmg
  have T:∃ t,My.Txt (L2.KOf KX) t:=by
   dsimp only [L2.KOf]                          -- K must stand as «<heap const> w.params» for k_is
   refine' My.txt_mk ?e1 ?e2 ?e3 ..
   (case e1=>PySem.W.k_is)                    -- in the order: a name -> its address -> its object -> its parts
   (case e2=>PySem.W.k_is)
   ..
  obtain ⟨t,T⟩:=T
  have e0:=hmg.symm.trans (PySem.W.mg_of KX G T.law)
  cases e0                                       -- fa is the law's own address
  exact ⟨_,fun s u=>.of_eq rfl,fun base kb nb=>My.law_fn T kb nb⟩     -- if «.of_eq rfl» comes too early: refine' ⟨_,?b,fun base kb nb=>My.law_fn T kb nb⟩;exact fun s u=>.of_eq rfl
 case S=>exact fun w H a ns hl hO hS=>..
 case C=>exact ..
(the tactic k_is has no namespace: write k_is) -/
namespace L2
open PySem PySem.Spec PyProof.Rows
def zoB (s:Stmt) (j:Nat):Stmt:=match s with
 | .ClassDef _ _ _ body _ _ _ _ _ _ _=>body.getD j (.Pass ⟨0,0,0,0⟩)
 |_=>.Pass ⟨0,0,0,0⟩
def zak (s:Stmt):Arguments:=match s with
 | .FunctionDef _ a _ _ _ _ _ _ _ _=>a
 |_=>{ posonlyargs:=[],args:=[],vararg:=none,kwonlyargs:=[],kw_defaults:=[],kwarg:=none,defaults:=[] }
def zae (s:Stmt):List Stmt:=match s with
 | .FunctionDef _ _ b _ _ _ _ _ _ _=>b
 |_=>[]
def zaa (s:Stmt):Scope:=match s with
 | .FunctionDef _ _ _ _ _ _ sc _ _ _=>sc
 |_=>{ kind:=.function,names:=[],isGenerator:=false,isCoroutine:=false }
abbrev CX0:CXT:=fun _ _ _ _ _ _=>False
abbrev E0:XK:=fun _ _ _=>False
theorem zl4 {X:Cx}:zd9 CX0 X E0:=fun _ _ _ _ _ _ _ h=>h.elim
structure Fun (K:PySem.W.Frag) (x qual:Str) (st:Stmt) (f:Addr) (fd:FuncData):Prop where
 ex:∃ (oc:Value) (od:Option Addr) (kV doc pm:Value) (an:Option Addr) (cdv ct:Value) (osl:Array (Option Value)),
  fd=PySem.W.fnOf x qual (zak st) (zae st) (zaa st) .none kV doc pm an cdv ct/\K.lookup f=some ⟨oc,od,.func fd,osl⟩/\PySem.W.codeIn K cdv qual=true
 kp:PySem.W.keepIn K (.ref f)=true
section
variable {P : Program} {w : World} {K : PySem.W.Frag} {mg : Str → Option Value} {base : Heap}
end
section
variable {X : Cx}
end
def Same (H H':Hp):Prop:=∀ b o,H b=some o->H' b=some o
section
variable {κ : Type} [DecidableEq κ]
end
end L2
set_option Elab.async false
set_option linter.all false
set_option maxRecDepth 100000
set_option maxHeartbeats 4000000
namespace L3
open PySem PySem.Spec PyProof.Rows L2
inductive W where
 |non | bl (b:Bool) | int (i:Int) | str (x:Str) | ty (n:String) | ref (a:Addr) | tup (ws:List W) | lsf (ws:List W)
  |exc (C:Addr) (ns:List Str) (ws:List W) | dcf (ks:List Str) (ws:List W)
abbrev Frg:=PySem.W.Frag
def KL (K:Frg) (a:Addr) (xs:List V):Prop:=∃ (o:Obj) (its:Array Value) (n:Nat),K.lookup a=some o/\o.cls=.type "list" /\ o.dict=none/\o.data=.seq its n/\its.size<=sizeLine/\Vals xs its.toList
def zpa:List DictEntry->List Str->List V->Prop
 | [],ks,vs=>ks=[]/\vs=[]
 |e::r,ks,vs=>∃ k t v ks' vs',ks=k::ks'/\vs=v::vs'/\e.key=.str k t/\RelV v e.val/\zpa r ks' vs'
def KD (K:Frg) (a:Addr) (ks:List Str) (vs:List V):Prop:=∃ (o:Obj) (es:Array DictEntry) (ep:Nat),K.lookup a=some o/\o.ExactDict/\o.data=.dict es ep/\es.size<=sizeLine/\(a==sysModules)=false/\zpa es.toList ks vs
def ExO (a C:Addr) (dx:Option Addr):Heap->Prop:=fun h=>∃ fs,h.get? a=some { cls:=.ref C,dict:=dx,data:=.fields fs }
def ExAt (H:Hp) (a C:Addr) (l:List (Str×V)):Prop:=(H a=some (.ext (ExO a C none))/\l=[])\/∃ dx,H a=some (.ext (ExO a C (some dx)))/\H dx=some (.xd l)
def isX:HO->Prop
 | .ext _=>True
 | .xd _=>True
 |_=>False
mutual
def Rep (K:Frg) (H:Hp):W->V->Prop
 | .non,v=>v=.non
 | .bl b,v=>v=.bl b
 | .int i,v=>v=.int i
 | .str x,v=>v=.str x
 | .ty n,v=>v=.ty n
 | .ref a,v=>v=.ref a
 | .tup ws,v=>∃ a vs,v=.ref a/\SqT K H a vs/\Reps K H ws vs
 | .lsf ws,v=>∃ a vs,v=.ref a/\KL K a vs/\Reps K H ws vs
 | .exc C ns ws,v=>∃ a vs,v=.ref a/\ExAt H a C (ns.zip vs)/\Reps K H ws vs
 | .dcf ks ws,v=>∃ a vs,v=.ref a/\KD K a ks vs/\Reps K H ws vs
def Reps (K:Frg) (H:Hp):List W->List V->Prop
 | [],vs=>vs=[]
 |w::ws,vs=>∃ v r,vs=v::r/\Rep K H w v/\Reps K H ws r
end
def Grow (K:Frg) (H H':Hp):Prop:=(∀ a xs,SqT K H a xs->SqT K H' a xs)/\∀ a o,isX o->H a=some o->H' a=some o
theorem Grow.refl {K:Frg} {H:Hp}:Grow K H H:=⟨fun _ _ h=>h,fun _ _ _ h=>h⟩
theorem Grow.trans {K:Frg} {H H1 H2:Hp} (a:Grow K H H1) (b:Grow K H1 H2):Grow K H H2:=⟨fun x xs h=>b.1 x xs (a.1 x xs h),fun x o i h=>b.2 x o i (a.2 x o i h)⟩
theorem ExAt.mono {K:Frg} {H H':Hp} (g:Grow K H H') {a C:Addr} {l:List (Str×V)} (h:ExAt H a C l):ExAt H' a C l:=by
 rcases h with ⟨h,e⟩ | ⟨dx,h,h'⟩
 .exact .inl ⟨g.2 _ _ True.intro h,e⟩
 .exact .inr ⟨dx,g.2 _ _ True.intro h,g.2 _ _ True.intro h'⟩
section
variable {K : Frg} {H H' : Hp}
mutual
theorem Rep.mono (g:Grow K H H'):∀ {w:W} {v:V},Rep K H w v->Rep K H' w v
 | .non,_,h=>h
 | .bl _,_,h=>h
 | .int _,_,h=>h
 | .str _,_,h=>h
 | .ty _,_,h=>h
 | .ref _,_,h=>h
 | .tup _,_,⟨a,vs,e,s,r⟩=>⟨a,vs,e,g.1 a vs s,Reps.mono g r⟩
 | .lsf _,_,⟨a,vs,e,s,r⟩=>⟨a,vs,e,s,Reps.mono g r⟩
 | .exc _ _ _,_,⟨a,vs,e,s,r⟩=>⟨a,vs,e,s.mono g,Reps.mono g r⟩
 | .dcf _ _,_,⟨a,vs,e,s,r⟩=>⟨a,vs,e,s,Reps.mono g r⟩
theorem Reps.mono (g:Grow K H H'):∀ {ws:List W} {vs:List V},Reps K H ws vs->Reps K H' ws vs
 | [],_,h=>h
 |_::_,_,⟨v,r,e,h,t⟩=>⟨v,r,e,Rep.mono g h,Reps.mono g t⟩
end
theorem Reps.length:∀ {ws:List W} {vs:List V},Reps K H ws vs->vs.length=ws.length
 | [],_,h=>by rw [show _=[] from h];rfl
 |_::_,_,⟨v,r,e,_,t⟩=>by rw [e,List.length_cons,List.length_cons,Reps.length t]
theorem Reps.append:∀ {ws:List W} {vs:List V} {ws':List W} {vs':List V},Reps K H ws vs->Reps K H ws' vs'->Reps K H (ws++ws') (vs++vs')
 | [],_,_,_,h,h'=>by rw [show _=[] from h];exact h'
 |_::_,_,_,_,⟨v,r,e,h,t⟩,h'=>by rw [e];exact ⟨v,_,rfl,h,Reps.append t h'⟩
theorem Reps.get:∀ {ws:List W} {vs:List V} {i:Nat} {w:W},Reps K H ws vs->ws[i]?=some w->∃ v,vs[i]?=some v/\Rep K H w v
 | [],_,_,_,_,e=>by simp at e
 |_::_,_,0,_,⟨v,r,e,h,t⟩,q=>by simp at q;subst q;subst e;exact ⟨v,rfl,h⟩
 |_::_,_,i+1,w,⟨v,r,e,h,t⟩,q=>by
  subst e
  obtain ⟨u,h1,h2⟩:=Reps.get (i:=i) (w:=w) t (by simpa using q)
  exact ⟨u,by simpa using h1,h2⟩
theorem Reps.get':∀ {ws:List W} {vs:List V} {i:Nat} {v:V},Reps K H ws vs->vs[i]?=some v->∃ w,ws[i]?=some w/\Rep K H w v
 | [],_,_,_,h,e=>by rw [show _=[] from h] at e;simp at e
 |_::_,_,0,_,⟨v,r,e,h,t⟩,q=>by subst e;simp at q;subst q;exact ⟨_,rfl,h⟩
 |_::_,_,i+1,w,⟨v,r,e,h,t⟩,q=>by
  subst e
  obtain ⟨u,h1,h2⟩:=Reps.get' (i:=i) (v:=w) t (by simpa using q)
  exact ⟨u,by simpa using h1,h2⟩
theorem Reps.set {w:W} {v:V} (q:Rep K H w v):∀ {ws:List W} {vs:List V} (i:Nat),Reps K H ws vs->Reps K H (ws.set i w) (vs.set i v)
 | [],_,_,h=>by rw [show _=[] from h];rfl
 |_::_,_,0,⟨_,r,e,_,t⟩=>by rw [e];exact ⟨_,_,rfl,q,t⟩
 |_::_,_,i+1,⟨v,r,e,h,t⟩=>by rw [e];exact ⟨_,_,rfl,h,Reps.set q i t⟩
theorem Reps.take:∀ {ws:List W} {vs:List V} (n:Nat),Reps K H ws vs->Reps K H (ws.take n) (vs.take n)
 | [],_,_,h=>by rw [show _=[] from h];simp;rfl
 |_::_,_,0,_=>by simp;rfl
 |_::_,_,n+1,⟨v,r,e,h,t⟩=>by rw [e];exact ⟨_,_,rfl,h,Reps.take n t⟩
theorem Reps.drop:∀ {ws:List W} {vs:List V} (n:Nat),Reps K H ws vs->Reps K H (ws.drop n) (vs.drop n)
 | [],_,_,h=>by rw [show _=[] from h];simp;rfl
 |_::_,_,0,h=>h
 |_::_,_,n+1,⟨v,r,e,h,t⟩=>by rw [e];exact Reps.drop n t
theorem Reps.reverse:∀ {ws:List W} {vs:List V},Reps K H ws vs->Reps K H ws.reverse vs.reverse
 | [],_,h=>by rw [show _=[] from h];rfl
 |_::_,_,⟨v,r,e,h,t⟩=>by
  rw [e,List.reverse_cons,List.reverse_cons]
  exact Reps.append (Reps.reverse t) ⟨v,[],rfl,h,rfl⟩
theorem Reps.dropLast {ws:List W} {vs:List V} (h:Reps K H ws vs):Reps K H ws.dropLast vs.dropLast:=by
 rw [List.dropLast_eq_take,List.dropLast_eq_take,h.length]
 exact h.take _
end
inductive O where
 |lst (ws:List W)
  |fix (ws:List W)
 |dic (kvs:List (Key×W))
 |ins (C:Addr) (fs:List (Str×W))
abbrev Hw:=Addr->Option O
def put (G:Hw) (a:Addr) (o:O):Hw:=fun b=>if b=a then some o else G b
theorem zad {G:Hw} {a:Addr} {o:O}:put G a o a=some o:=by unfold put;rw [if_pos rfl]
theorem zau {G:Hw} {a b:Addr} {o:O} (h:b≠a):put G a o b=G b:=by unfold put;rw [if_neg h]
theorem zkb {G:Hw} {a:Addr} {o u:O}:put (put G a o) a u=put G a u:=by
 funext b;unfold put;split <;> rfl
theorem zba {G:Hw} {a b:Addr} {o:O} (h:G a=some o) (h':G b=none):a≠b:=by
 intro e;subst e;rw [h] at h';cases h'
def zaL (K:Frg) (H:Hp) {κ:Type}:List (κ×W)->List (κ×V)->Prop
 | [],l=>l=[]
 |p::r,l=>∃ v t,l=(p.1,v)::t/\Rep K H p.2 v/\zaL K H r t
def RepO (K:Frg) (H:Hp):O->HO->Prop
 | .lst ws,o=>∃ vs,o=.lst vs/\Reps K H ws vs
 | .fix ws,o=>∃ vs ob,(o=.lst vs\/o=.frz ob (.lst vs))/\Reps K H ws vs
 | .dic kvs,o=>∃ l,o=.dK l/\zaL K H kvs l
 | .ins C fs,o=>∃ dx l,o=.ins C dx l/\zaL K H fs l
def Abs (K:Frg) (H:Hp) (G:Hw):Prop:=∀ a o,G a=some o->∃ u,H a=some u/\RepO K H o u
theorem zaL.mono {K:Frg} {H H':Hp} (g:Grow K H H') {κ:Type}:∀ {l:List (κ×W)} {l':List (κ×V)},zaL K H l l'->zaL K H' l l'
 | [],_,h=>h
 |_::_,_,⟨v,t,e,h,r⟩=>⟨v,t,e,h.mono g,zaL.mono g r⟩
theorem RepO.mono {K:Frg} {H H':Hp} (g:Grow K H H'):∀ {o:O} {u:HO},RepO K H o u->RepO K H' o u
 | .lst _,_,⟨vs,e,r⟩=>⟨vs,e,r.mono g⟩
 | .fix _,_,⟨vs,ob,e,r⟩=>⟨vs,ob,e,r.mono g⟩
 | .dic _,_,⟨l,e,r⟩=>⟨l,e,r.mono g⟩
 | .ins _ _,_,⟨dx,l,e,r⟩=>⟨dx,l,e,r.mono g⟩
theorem RepO.notX {K:Frg} {H:Hp}:∀ {o:O} {u:HO},RepO K H o u->¬ isX u
 | .lst _,_,⟨vs,e,r⟩=>by subst e;exact id
 | .fix _,_,⟨vs,ob,e,r⟩=>by rcases e with e | e <;> subst e <;> exact id
 | .dic _,_,⟨l,e,r⟩=>by subst e;exact id
 | .ins _ _,_,⟨dx,l,e,r⟩=>by subst e;exact id
theorem RepO.notTup {K:Frg} {H:Hp}:∀ {o:O} {u:HO},RepO K H o u->(∀ xs,u≠.tup xs)/\∀ ob xs,u≠.frz ob (.tup xs)
 | .lst _,_,⟨vs,e,r⟩=>by subst e;exact ⟨(fun _ z=>nomatch z),(fun _ _ z=>nomatch z)⟩
 | .fix _,_,⟨vs,ob,e,r⟩=>by
  rcases e with e | e <;> subst e
  .exact ⟨(fun _ z=>nomatch z),(fun _ _ z=>nomatch z)⟩
  .exact ⟨(fun _ z=>nomatch z),(fun _ _ z=>nomatch z)⟩
 | .dic _,_,⟨l,e,r⟩=>by subst e;exact ⟨(fun _ z=>nomatch z),(fun _ _ z=>nomatch z)⟩
 | .ins _ _,_,⟨dx,l,e,r⟩=>by subst e;exact ⟨(fun _ z=>nomatch z),(fun _ _ z=>nomatch z)⟩
section
variable {K : Frg} {H H' : Hp} {G : Hw} {a : Addr}
theorem Abs.free (h:Abs K H G) (e:H a=none):G a=none:=by
 cases q:G a with
 |none=>rfl
 |some o =>
  obtain ⟨u,e',_⟩:=h a o q
  rw [e] at e';cases e'
theorem ziH {u:HO} (h:∀ xs,¬ Rd H a (.tup xs)) (hx:∀ o,isX o->H a≠some o):Grow K H (upd H a u):=⟨fun b xs s=>by
 rcases s with s | s
 .have hb:b≠a:=by rintro rfl;exact h xs s
  left
  rcases s with s | ⟨o,s⟩
  .exact .inl (by rw [zam hb];exact s)
  .exact .inr ⟨o,by rw [zam hb];exact s⟩
 .exact .inr s,fun b o i s=>by
 have hb:b≠a:=by rintro rfl;exact hx o i s
 rw [zam hb];exact s⟩
theorem zaU {u:HO} (h:H a=none):Grow K H (upd H a u):=ziH (fun xs s=>by
 rcases s with s | ⟨o,s⟩ <;> (rw [h] at s;cases s)) (fun o _ s=>by rw [h] at s;cases s)
theorem Abs.grow {o:O} {u:HO} (h:Abs K H G) (e:G a=some o):Grow K H (upd H a u):=by
 obtain ⟨u',e',r⟩:=h a o e
 refine ziH (fun xs s=>?_) (fun o' i s=>?_)
 .rcases s with s | ⟨ob,s⟩
  .rw [e'] at s;cases s;exact r.notTup.1 xs rfl
  .rw [e'] at s;cases s;exact r.notTup.2 ob xs rfl
 .rw [e'] at s;cases s;exact r.notX i
theorem Abs.new {o:O} {u:HO} (h:Abs K H G) (e:H a=none) (r:RepO K (upd H a u) o u):Abs K (upd H a u) (put G a o):=fun b ob q=>by
 by_cases hb:b=a
 .subst hb;rw [zad] at q;cases q;exact ⟨u,zbt,r⟩
 .rw [zau hb] at q
  obtain ⟨u',e',r'⟩:=h b ob q
  exact ⟨u',by rw [zam hb];exact e',r'.mono (zaU e)⟩
theorem Abs.tup {u:HO} (h:Abs K H G) (e:H a=none):Abs K (upd H a u) G:=fun b ob q=>by
 obtain ⟨u',e',r'⟩:=h b ob q
 exact ⟨u',by rw [zam (zaq e' e)];exact e',r'.mono (zaU e)⟩
theorem Abs.chg {o o':O} {u:HO} (h:Abs K H G) (e:G a=some o') (r:RepO K (upd H a u) o u):Abs K (upd H a u) (put G a o):=fun b ob q=>by
 by_cases hb:b=a
 .subst hb;rw [zad] at q;cases q;exact ⟨u,zbt,r⟩
 .rw [zau hb] at q
  obtain ⟨u',e',r'⟩:=h b ob q
  exact ⟨u',by rw [zam hb];exact e',r'.mono (h.grow e)⟩
theorem Abs.lst {ws:List W} (h:Abs K H G) (e:G a=some (.lst ws)):∃ vs,H a=some (.lst vs)/\Reps K H ws vs:=by
 obtain ⟨u,e',vs,rfl,r⟩:=h a _ e
 exact ⟨vs,e',r⟩
theorem Abs.dic {kvs:List (Key×W)} (h:Abs K H G) (e:G a=some (.dic kvs)):∃ l,H a=some (.dK l)/\zaL K H kvs l:=by
 obtain ⟨u,e',vs,rfl,r⟩:=h a _ e
 exact ⟨vs,e',r⟩
theorem Abs.ins {C:Addr} {fs:List (Str×W)} (h:Abs K H G) (e:G a=some (.ins C fs)):∃ dx l,H a=some (.ins C dx l)/\zaL K H fs l:=by
 obtain ⟨u,e',dx,vs,rfl,r⟩:=h a _ e
 exact ⟨dx,vs,e',r⟩
end
def zav (G:Hw) (a:Addr):Option (List W):=match G a with
 |some (.lst ws)=>some ws
 |some (.fix ws)=>some ws
 |_=>none
theorem Abs.seq {K:Frg} {H:Hp} {G:Hw} {a:Addr} {ws:List W} (h:Abs K H G) (e:zav G a=some ws):∃ vs,SqL K H a vs/\Reps K H ws vs:=by
 unfold zav at e
 split at e
 .rename_i q
  cases e
  obtain ⟨vs,e',r⟩:=h.lst q
  exact ⟨vs,.of e',r⟩
 .rename_i q
  cases e
  obtain ⟨u,e',vs,ob,z,r⟩:=h a _ q
  refine ⟨vs,?_,r⟩
  rcases z with rfl | rfl
  .exact .inl (.inl e')
  .exact .inl (.inr ⟨_,e'⟩)
 .cases e
abbrev St3:=List (Option W)
def zaK (K:Frg) (H:Hp) (σ:St3) (τ:L2.St):Prop:=σ.length=τ.length/\∀ (i:Nat) (w:W),σ[i]?=some (some w)->∃ v,τ[i]?=some (some v)/\Rep K H w v
theorem zaK.mono {K:Frg} {H H':Hp} (g:Grow K H H') {σ:St3} {τ:L2.St} (h:zaK K H σ τ):zaK K H' σ τ :=
 ⟨h.1,fun i w e=>let ⟨v,e',r⟩:=h.2 i w e;⟨v,e',r.mono g⟩⟩
theorem zaK.set {K:Frg} {H:Hp} {σ:St3} {τ:L2.St} {w:W} {v:V} (h:zaK K H σ τ) (r:Rep K H w v) (i:Nat):zaK K H (σ.set i (some w)) (τ.set i (some v)):=by
 refine ⟨by simp [h.1],fun j w' e=>?_⟩
 rw [List.getElem?_set] at e ⊢
 by_cases hj:i=j
 .subst hj
  rw [if_pos rfl] at e ⊢
  by_cases hl:i<σ.length
  .rw [if_pos hl] at e;cases e
   rw [if_pos (h.1▸hl)];exact ⟨v,rfl,r⟩
  .rw [if_neg hl] at e;cases e
 .rw [if_neg hj] at e ⊢;exact h.2 j w' e
abbrev Q3:=W->Hw->Prop
abbrev E3:=St3->Hw->Q3->Prop
abbrev T3:=St3->Hw->(Bool->Hw->Prop)->Prop
abbrev A3:=St3->Hw->(List W->Hw->Prop)->Prop
structure End3 where
 nx:St3->Hw->Prop
 rt:Q3
 bk:St3->Hw->Prop:=fun _ _=>False
 ct:St3->Hw->Prop:=fun _ _=>False
abbrev S3:=End3->St3->Hw->Prop
section
variable (K : Frg)
def lowE (t:E3):TE:=fun τ H Q=>∃ σ G,zaK K H σ τ/\Abs K H G/\t σ G fun w G'=>∀ v H',Grow K H H'->Rep K H' w v->Abs K H' G'->Q v H'
def lowT (t:T3):TT:=fun τ H Q=>∃ σ G,zaK K H σ τ/\Abs K H G/\t σ G fun b G'=>∀ H',Grow K H H'->Abs K H' G'->Q b H'
def lowA (t:A3):TA:=fun τ H Q=>∃ σ G,zaK K H σ τ/\Abs K H G/\t σ G fun ws G'=>∀ vs H',Grow K H H'->Reps K H' ws vs->Abs K H' G'->Q vs H'
structure Fine (H:Hp) (D3:End3) (D:Ends):Prop where
 nx:∀ σ G τ H',Grow K H H'->zaK K H' σ τ->Abs K H' G->D3.nx σ G->D.nx τ H'
 bk:∀ σ G τ H',Grow K H H'->zaK K H' σ τ->Abs K H' G->D3.bk σ G->D.bk τ H'
 ct:∀ σ G τ H',Grow K H H'->zaK K H' σ τ->Abs K H' G->D3.ct σ G->D.ct τ H'
 rt:∀ w G v H',Grow K H H'->Rep K H' w v->Abs K H' G->D3.rt w G->D.rt v H'
def lowS (t:S3):TS:=fun D τ H=>∃ σ G D3,zaK K H σ τ/\Abs K H G/\Fine K H D3 D/\t D3 σ G
end
theorem Fine.grow {K:Frg} {H H':Hp} {D3:End3} {D:Ends} (f:Fine K H D3 D) (g:Grow K H H'):Fine K H' D3 D :=
 ⟨fun σ G τ H2 g2=>f.nx σ G τ H2 (g.trans g2),fun σ G τ H2 g2=>f.bk σ G τ H2 (g.trans g2),fun σ G τ H2 g2=>f.ct σ G τ H2 (g.trans g2),fun w G v H2 g2=>f.rt w G v H2 (g.trans g2)⟩
def zbB (t:E3):Prop:=∀ σ G (Q Q':Q3),(∀ w G',Q w G'->Q' w G')->t σ G Q->t σ G Q'
def zea (t:T3):Prop:=∀ σ G (Q Q':Bool->Hw->Prop),(∀ w G',Q w G'->Q' w G')->t σ G Q->t σ G Q'
def zdt (t:A3):Prop:=∀ σ G (Q Q':List W->Hw->Prop),(∀ w G',Q w G'->Q' w G')->t σ G Q->t σ G Q'
section
variable {K : Frg} {H : Hp} {σ : St3} {τ : L2.St} {G : Hw}
theorem za5 {t:E3} {R:Q3} {S:VK} (m:zbB t) (hs:zaK K H σ τ) (ha:Abs K H G) (h:t σ G R)
  (k:∀ w G1 v H1,Grow K H H1->zaK K H1 σ τ->Rep K H1 w v->Abs K H1 G1->R w G1->S v H1):lowE K t τ H S :=
 ⟨σ,G,hs,ha,m σ G _ _ (fun w G' r v H' g rp ab=>k w G' v H' g (hs.mono g) rp ab r) h⟩
theorem zhU {t:T3} {R:Bool->Hw->Prop} {S:Bool->Hp->Prop} (m:zea t) (hs:zaK K H σ τ) (ha:Abs K H G) (h:t σ G R)
  (k:∀ b G1 H1,Grow K H H1->zaK K H1 σ τ->Abs K H1 G1->R b G1->S b H1):lowT K t τ H S :=
 ⟨σ,G,hs,ha,m σ G _ _ (fun w G' r H' g ab=>k w G' H' g (hs.mono g) ab r) h⟩
theorem zfL {t:A3} {R:List W->Hw->Prop} {S:List V->Hp->Prop} (m:zdt t) (hs:zaK K H σ τ) (ha:Abs K H G) (h:t σ G R)
  (k:∀ w G1 v H1,Grow K H H1->zaK K H1 σ τ->Reps K H1 w v->Abs K H1 G1->R w G1->S v H1):lowA K t τ H S :=
 ⟨σ,G,hs,ha,m σ G _ _ (fun w G' r v H' g rp ab=>k w G' v H' g (hs.mono g) rp ab r) h⟩
end
end L3
namespace L2
section
variable {X : Cx} {e : PySem.Expr} {st : PySem.Stmt} {sts : List PySem.Stmt}
theorem PE.imp {t t':TE} (h:PE X e t) (k:∀ σ H Q,t' σ H Q->t σ H Q):PE X e t':=fun pins s σ H Q I q=>h pins s σ H Q I (k σ H Q q)
theorem PT.imp {t t':TT} (h:PT X e t) (k:∀ σ H Q,t' σ H Q->t σ H Q):PT X e t':=fun pins s σ H Q I q=>h pins s σ H Q I (k σ H Q q)
theorem PW.imp {t t':TT} (h:PW X e t) (k:∀ σ H Q,t' σ H Q->t σ H Q):PW X e t':=fun wh pins s σ H Q I q=>h wh pins s σ H Q I (k σ H Q q)
theorem PA.imp {es:List PySem.Expr} {t t':TA} (h:PA X es t) (k:∀ σ H Q,t' σ H Q->t σ H Q):PA X es t':=fun pos pins s σ H Q I q=>h pos pins s σ H Q I (k σ H Q q)
theorem PS.imp {t t':TS} (h:PS X st t) (k:∀ D σ H,t' D σ H->t D σ H):PS X st t':=fun pins s σ H D I q=>h pins s σ H D I (k D σ H q)
theorem PSs.imp {t t':TS} (h:PSs X sts t) (k:∀ D σ H,t' D σ H->t D σ H):PSs X sts t':=fun pins s σ H D I q=>h pins s σ H D I (k D σ H q)
end
end L2
set_option genInjectivity false
set_option genSizeOfSpec false
set_option Elab.async false
set_option linter.all false
set_option maxRecDepth 100000
set_option maxHeartbeats 4000000
namespace L2
open PySem PySem.Spec PyProof.Rows PySem.Calls
def clo (env:Env):List (Str×NameKind)->List (Str×Addr)->List (Str×Addr)
 | [],acc=>acc
 | (n,k)::r,acc=>if (k==NameKind.free)=true then clo env r ((n,(env.cells.lookup n).getD 0)::acc) else clo env r acc
theorem zhQ (env:Env):∀ (l:List (Str×NameKind)) (acc:List (Str×Addr)) {x:Str} {c:Addr},(clo env l acc).lookup x=some c ->
  ((∃ k,(x,k)∈l/\k=.free)/\c=(env.cells.lookup x).getD 0)\/acc.lookup x=some c
 | [],acc,x,c,h=>.inr h
 | (n,k)::r,acc,x,c,h=>by
  unfold clo at h
  by_cases hk:(k==NameKind.free)=true
  .rw [if_pos hk] at h
   rcases zhQ env r _ h with ⟨⟨k',m,e⟩,q⟩ | h
   .exact .inl ⟨⟨k',List.mem_cons_of_mem _ m,e⟩,q⟩
   .rw [List.lookup_cons] at h
    by_cases hx:(x==n)=true
    .rw [hx] at h
     have e:x=n:=eq_of_beq hx
     subst e
     exact .inl ⟨⟨k,List.mem_cons_self,eq_of_beq hk⟩,(Option.some.inj h).symm⟩
    .rw [Bool.not_eq_true] at hx
     rw [hx] at h;exact .inr h
  .rw [if_neg hk] at h
   rcases zhQ env r _ h with ⟨⟨k',m,e⟩,q⟩ | h
   .exact .inl ⟨⟨k',List.mem_cons_of_mem _ m,e⟩,q⟩
   .exact .inr h
theorem zhR (env:Env):∀ (l:List (Str×NameKind)) (acc:List (Str×Addr)) {x:Str},(∃ c,acc.lookup x=some c)->∃ c,(clo env l acc).lookup x=some c
 | [],acc,x,h=>h
 | (n,k)::r,acc,x,h=>by
  unfold clo
  split
  .refine zhR env r _ ?_
   rw [List.lookup_cons]
   cases x==n
   .exact h
   .exact ⟨_,rfl⟩
  .exact zhR env r _ h
theorem zfH (env:Env):∀ (l:List (Str×NameKind)) (acc:List (Str×Addr)) {x:Str},(x,NameKind.free)∈l->∃ c,(clo env l acc).lookup x=some c
 | (n,k)::r,acc,x,h=>by
  unfold clo
  rcases List.mem_cons.mp h with h | h
  .cases h
   rw [if_pos (by decide)]
   refine zhR env r _ ?_
   rw [List.lookup_cons,beq_self_eq_true]
   exact ⟨_,rfl⟩
  .split
   .exact zfH env r _ h
   .exact zfH env r _ h
theorem zeU {env:Env} {scope:Scope} (h:∀ x,(x,NameKind.free)∈scope.names->∃ c,env.cells.lookup x=some c):closureFor scope env=pure (clo env scope.names []):=by
 simp only [closureFor]
 have key:∀ (l:List (Str×NameKind)) (acc:List (Str×Addr)),(∀ x,(x,NameKind.free)∈l->∃ c,env.cells.lookup x=some c) ->
   (forIn l acc fun x r=>match x with | (name,kind)=>if (kind==NameKind.free)=true then (do let a ← cellOf env name;pure (ForInStep.yield ((name,a)::r))) else pure (ForInStep.yield r):Sem (List (Str×Addr)))=pure (clo env l acc):=by
  intro l
  induction l with
  |nil=>intro acc _;rfl
  |cons p r ih =>
   intro acc hh
   obtain ⟨n,k⟩:=p
   rw [List.forIn_cons]
   by_cases hk:(k==NameKind.free)=true
   .have ek:k=.free:=eq_of_beq hk
    obtain ⟨c,hc⟩:=hh n (by rw [ek];exact List.mem_cons_self)
    simp only [hk,if_true]
    have e1:cellOf env n=pure c:=by unfold cellOf;rw [hc]
    rw [e1]
    simp only [pure_bind]
    rw [ih _ fun x hx=>hh x (List.mem_cons_of_mem _ hx)]
    conv=>rhs;unfold clo
    rw [if_pos hk,hc]
    all_goals rfl
   .simp only [hk]
    rw [if_neg (by simp)]
    simp only [pure_bind]
    rw [ih _ fun x hx=>hh x (List.mem_cons_of_mem _ hx)]
    conv=>rhs;unfold clo
    rw [if_neg hk]
 have:=key scope.names [] h
 simpa using this
theorem zbl {env:Env}:∀ {names:List (Str×NameKind)} {x:Str} {k':NameKind},
  (names.map fun (n,k)=>if (k==NameKind.free&&env.scope.kind==.function&&env.kindOf n==some .cell) then (n,NameKind.cell) else (n,k)).lookup x=some k' ->
  ∃ k,names.lookup x=some k/\(k'=k\/(k=.free/\k'=.cell))
 | [],_,_,h=>by simp at h
 | (n,k)::r,x,k',h=>by
  rw [List.map_cons] at h
  by_cases hc:(k==NameKind.free&&env.scope.kind==.function&&env.kindOf n==some .cell)=true
  .simp only [hc,if_true] at h
   rw [List.lookup_cons] at h ⊢
   cases hx:x==n with
   |true =>
    rw [hx] at h
    cases h
    simp only [Bool.and_eq_true,beq_iff_eq] at hc
    exact ⟨k,rfl,.inr ⟨hc.1.1,rfl⟩⟩
   |false=>rw [hx] at h;exact zbl h
  .simp only [hc,if_false] at h
   rw [if_neg (by simp)] at h
   rw [List.lookup_cons] at h ⊢
   cases hx:x==n with
   |true=>rw [hx] at h;cases h;exact ⟨k,rfl,.inl rfl⟩
   |false=>rw [hx] at h;exact zbl h
theorem zcl {α:Type}:∀ {l:List (Str×α)} {x:Str} {v:α},l.lookup x=some v->(x,v)∈l
 | (n,k)::r,x,v,h=>by
  rw [List.lookup_cons] at h
  cases hx:x==n with
  |true=>rw [hx] at h;cases h;rw [eq_of_beq hx];exact List.mem_cons_self
  |false=>rw [hx] at h;exact List.mem_cons_of_mem _ (zcl h)
end L2
set_option Elab.async false
set_option linter.all false
set_option maxRecDepth 100000
set_option maxHeartbeats 4000000
namespace L2
open PySem PySem.Spec PyProof.Rows PySem.Calls
theorem zgY (elt target iter:Expr) (ifs:List Expr) (scope:Scope) (pos:Pos) (it acc:Value) (env:Env) :
  compTurn (.ListComp elt [⟨target,iter,ifs,0⟩] scope pos) 0 it acc env=(do
   standAt iter.pos
   match ← pyNext it with
   |none=>pure (.done .next)
   |some v =>
    letOwnedTupleGo target it v
    assign target env v
    let mut ok:=true
    for c in ifs do
     if ok then ok ← isTrue c env (eval c env)
    if ok then
     (do let _ ← call (.builtin "list.append") [acc,← eval elt env])
    again (.compLoop (.ListComp elt [⟨target,iter,ifs,0⟩] scope pos) 0 it acc env)):=by rfl
section
variable {prog : Program} {w : World} {A : Around} {R : Result → Shared → Prop} {s : Shared}
theorem zgZ {elt target iter:Expr} {ifs:List Expr} {scope:Scope} {pos:Pos} {it acc:Value} {env:Env} (I:Nat->Shared->Prop)
  (turn:∀ n s,I n s->wpAny (model prog w) A (pyNext it) (fun r s₁=>match r with
   |none=>R (.ok .next) s₁
   |some v=>wpAny (model prog w) A (letOwnedTupleGo target it v) (fun _ s₁=>wpAny (model prog w) A (assign target env v) (fun _ s₂ =>
     wpAny (model prog w) A (forIn ifs true fun c r=>if r=true then do let ok ← isTrue c env (eval c env);pure (ForInStep.yield ok) else pure (ForInStep.yield r)) (fun ok s₃ =>
      if ok=true then wpAny (model prog w) A (eval elt env) (fun x s₄ =>
       wpAny (model prog w) A (call (.builtin "list.append") [acc,x]) (fun _ s₅=>∃ m,m<n/\I m s₅) (fun _ _=>False) s₄) (fun _ _=>False) s₃
      else ∃ m,m<n/\I m s₃) (fun _ _=>False) s₂) (fun _ _=>False) s₁) (fun _ _=>False) s₁) (fun _ _=>False) s)
  (n:Nat) (h:I n s) :
  codeAny (model prog w) A (.compLoop (.ListComp elt [⟨target,iter,ifs,0⟩] scope pos) 0 it acc env) R s:=by
 refine codeAny_loop rfl I (fun n s hI=>?_) n h
 show wpAny _ A ((compTurn (.ListComp elt [⟨target,iter,ifs,0⟩] scope pos) 0 it acc env).onRaise (fun x=>do noteFrame x env;theTreesLotGoes x)) _ _ s
 refine wpAny_noted ?_
 rw [zgY]
 refine wpAny_bind (wpAny_standAt (wpAny_bind (wpAny_mono (turn n s hI) (fun r s₁ h₁=>?_) fun _ _ h'=>h'.elim)))
 cases r with
 |none=>exact wpAny_pure h₁
 |some v =>
  refine wpAny_bind (wpAny_mono h₁ (fun _ s₁ h₁=>?_) fun _ _ h'=>h'.elim)
  refine wpAny_bind (wpAny_mono h₁ (fun _ s₂ h₂=>wpAny_bind (wpAny_mono h₂ (fun ok s₃ h₃=>?_) fun _ _ h'=>h'.elim)) fun _ _ h'=>h'.elim)
  cases ok with
  |false=>exact wpAny_pure ⟨rfl,h₃⟩
  |true =>
   exact wpAny_bind (wpAny_bind (wpAny_mono h₃ (fun x s₄ h₄=>wpAny_bind (wpAny_mono h₄ (fun _ s₅ h₅=>wpAny_pure (wpAny_pure ⟨rfl,h₅⟩)) fun _ _ h'=>h'.elim)) fun _ _ h'=>h'.elim))
end
structure IsBlock (X:Cx) (N:List Str) (sc:Scope) (X':Cx):Prop where
 prog:X'.prog=X.prog
 w:X'.w=X.w
 K:X'.K=X.K
 mg:X'.mg=X.mg
 base:X'.base=X.base
 A:X'.A=X.A
 calm:X'.calm=X.calm
 N:X'.N=N
 scope:X'.env.scope=relabel sc X.env
 xe:X'.xe=fun _ _=>False
def zcL (X:Cx) (N:List Str) (sc:Scope) (C:Addr) (s2:Shared) (H2:Hp) (fp:List Addr) (pins:List (Addr×Obj)):Cx where
 prog:=X.prog
 w:=X.w
 K:=X.K
 mg:=X.mg
 base:=X.base
 A:=X.A
 N:=N
 s₀:=s2
 H₀:=H2
 env:=compEnvC sc (clo X.env sc.names []) C X.env
 outer:=X.stack
 stack:=X.stack
 ex:=fp
 fn:=fun _=>false
 calm:=X.calm
 pn:=X.pn++pins
 xe:=fun _ _=>False
theorem zjr (X:Cx) (N:List Str) (sc:Scope) (C:Addr) (s2:Shared) (H2:Hp) (fp:List Addr) (pins:List (Addr×Obj)):IsBlock X N sc (zcL X N sc C s2 H2 fp pins) :=
 ⟨rfl,rfl,rfl,rfl,rfl,rfl,rfl,rfl,rfl,rfl⟩
structure BlkSc (X:Cx) (sc:Scope):Prop where
 kind:sc.kind=.function
 nocell:∀ y∈sc.names,y.2≠.cell
 free:∀ x,(x,NameKind.free)∈sc.names->X.env.kindOf x=some .cell\/X.env.kindOf x=some .free
 names:∀ y∈sc.names,y.2=.local->sc.names.lookup y.1=some .local
section
variable {X : Cx} {pins : List (Addr × Obj)} {σ : St} {H2 : Hp} {s2 : Shared} {sc : Scope} {N : List Str} {C : Addr} {fp : List Addr}
theorem zbw (ok:X.Ok) (B:BlkSc X sc) {x:Str} {c:Addr} (h:(clo X.env sc.names []).lookup x=some c):X.env.cells.lookup x=some c/\(X.env.kindOf x=some .cell\/X.env.kindOf x=some .free):=by
 rcases zhQ _ _ _ h with ⟨⟨k,m,e⟩,q⟩ | h
 .subst e
  have hf:=B.free x m
  obtain ⟨c',hc'⟩:=ok.has x hf
  rw [hc'] at q
  exact ⟨by rw [hc',q];rfl,hf⟩
 .simp at h
theorem zq9 (B:BlkSc X sc) {x:Str} (h:(relabel sc X.env).names.lookup x=some .cell\/(relabel sc X.env).names.lookup x=some .free):(x,NameKind.free)∈sc.names:=by
 rcases h with h | h
 .obtain ⟨k,hk,e⟩:=zbl h
  rcases e with e | ⟨e,_⟩
  .subst e;exact absurd rfl (B.nocell _ (zcl hk))
  .subst e;exact zcl hk
 .obtain ⟨k,hk,e⟩:=zbl h
  rcases e with e | ⟨e,z⟩
  .subst e;exact zcl hk
  .cases z
theorem ziO (I2:Inv X pins σ H2 s2) (B:BlkSc X sc) (f2:∀ b∈fp,FpOk X pins H2 b) (hfp:∀ b∈fp,b<s2.heap.objs.size) (hC:s2.heap.objs.size<=C):(zcL X N sc C s2 H2 fp pins).Ok where
 mod:=I2.ok.mod
 kind:=B.kind
 glob:=I2.ok.glob
 blt:=I2.ok.blt
 above:=hC
 inj:=fun x y c hx hy=>I2.ok.inj x y c (zbw I2.ok B hx).1 (zbw I2.ok B hy).1
 has:=fun x h=>zfH _ _ _ (zq9 B h)
 cab:=fun x c h=>by cases h
 hd:=I2.ok.hd
 frames:=I2.ok.frames
 stk:=.inl rfl
 exf:=fun b hb=>⟨Nat.ne_of_lt (Nat.lt_of_lt_of_le (hfp b hb) hC),fun x c h=>(f2 b hb).2.2.2.2.1 x c (zbw I2.ok B h).1⟩
 bs:=I2.bs
 bsz:=Nat.le_trans I2.ok.bsz I2.sz
 noex:=fun b o e hb=>by
  rcases (f2 b hb).2.2.2.1 with h | h
  .exact I2.ok.noex b o e h
  .exact absurd (Nat.lt_of_lt_of_le (Heap.lt_size e) (Nat.le_trans I2.ok.bsz h)) (Nat.lt_irrefl _)
 exfs:=fun b hb hm=>by
  rcases List.mem_cons.mp (I2.stkSub b hm) with h | h
  .exact (f2 b hb).2.1 h
  .exact (f2 b hb).2.2.1 h
 funs:=I2.stack
 frf:=I2.stkFree
theorem zk4 {s4:Shared} {τ:St} {m:Str->Option Value} (I2:Inv X pins σ H2 s2) (B:BlkSc X sc) (f2:∀ b∈fp,FpOk X pins H2 b) (hfp:∀ b∈fp,b<s2.heap.objs.size) (hC:s2.heap.objs.size<=C)
  (ho:s4.os=s2.os) (hg:s4.gens=s2.gens) (keep:∀ b o,s2.heap.get? b=some o->s4.heap.get? b=some o) (hns:s4.heap.Ns C m) (hl:τ.length=N.length)
  (cap:∀ (i:Nat) (x:Str) (v:V),N[i]?=some x->τ[i]?=some (some v)->Vis (relabel sc X.env) x->(relabel sc X.env).names.lookup x≠some .local/\∃ j:Nat,X.N[j]?=some x/\σ[j]?=some (some v)) :
  Inv (zcL X N sc C s2 H2 fp pins) [] τ H2 s4:=by
 refine ⟨ziO I2 B f2 hfp hC,ho,by rw [hg];exact I2.bare,Un.kept keep,⟨m,hns,fun i x v hN hτ hv=>?_⟩,fun x c h=>?_,I2.hok.fresh hC,fun x c h=>I2.freeC x c (zbw I2.ok B h).1,fun p hp=>?_,I2.hok.kept keep,hl⟩
 .obtain ⟨hnl,j,hj,hσ⟩:=cap i x v hN hτ hv
  have hkind:(relabel sc X.env).names.lookup x=some .cell\/(relabel sc X.env).names.lookup x=some .free:=by
   rcases hv with h | h | h
   .exact absurd h hnl
   .exact .inl h
   .exact .inr h
  have hmem:=zq9 B hkind
  have hf:=B.free x hmem
  obtain ⟨m0,_,hl0⟩:=I2.loc
  obtain ⟨u,r,lk⟩:=hl0 j x v hj hσ (hf.elim (fun h=>.inr (.inl h)) fun h=>.inr (.inr h))
  refine ⟨u,r,.inr ⟨hkind,?_⟩⟩
  rcases lk with ⟨hk,_⟩ | ⟨_,c,hc,hcell⟩
  .rw [hk] at hf;rcases hf with hf | hf <;> cases hf
  .obtain ⟨c',hc'⟩:=zfH X.env sc.names [] hmem
   have e:=(zbw I2.ok B hc').1
   rw [hc] at e;cases e
   refine ⟨c,hc',?_⟩
   obtain ⟨o,e1,r1⟩:=hcell
   exact ⟨o,keep _ _ e1,r1⟩
 .obtain ⟨v,o,e1,r1⟩:=I2.cell x c (zbw I2.ok B h).1
  exact ⟨v,o,keep _ _ e1,r1⟩
 .have hp':p∈X.pn++pins:=by simpa [zcL] using hp
  obtain ⟨q1,q2,q3,q4,q5⟩:=I2.pin p hp'
  refine ⟨keep _ _ q1,q2,Nat.ne_of_lt (Nat.lt_of_lt_of_le (Heap.lt_size q1) hC),fun z=>?_,q5⟩
  rcases List.mem_cons.mp (I2.stkSub _ z) with h | h
  .exact q3 h
  .exact q4 h
end
theorem HOk.adopt {P:Program} {w:World} {H:Hp} {h h':Heap} {a:Addr} {o:HO} (x:HOk P w H h) (k:∀ b u v,H b=some v->h.get? b=some u->h'.get? b=some u) (hn:H a=none) (new:zbn P w (upd H a o) h' a o):HOk P w (upd H a o) h':=fun b u e=>by
 by_cases hb:b=a
 .subst hb;rw [zbt] at e;cases e;exact new
 .rw [zam hb] at e
  refine (x b u e).stay (fun c v hc q=>?_) (fun c q=>by rw [zam (zaq q hn)];exact q) fun c xs q=>by rw [zam (zaq q hn)];exact q
  rcases hc with rfl | hc
  .exact k _ _ _ e q
  .exact k _ _ _ hc q
end L2
set_option Elab.async false
set_option linter.all false
set_option maxRecDepth 100000
set_option maxHeartbeats 4000000
namespace L2
open PySem PySem.Spec PyProof.Rows PySem.Calls
def PTs (X:Cx) (ifs:List Expr) (t:TT):Prop :=
 ∀ (pins:List (Addr×Obj)) (s:Shared) (σ:St) (H:Hp) (Q:Bool->Hp->Prop),Inv X pins σ H s->t σ H Q ->
  wpAny (model X.prog X.w) X.A (forIn ifs true fun c r=>if r=true then do let ok ← isTrue c X.env (eval c X.env);pure (ForInStep.yield ok) else pure (ForInStep.yield r)) (TP X pins σ Q) X.xe s
theorem znQ {X:Cx}:PTs X [] (fun _ H Q=>Q true H):=fun _ _ _ H _ I h=>wpAny_tests_nil ⟨H,I,h⟩
theorem znP {X:Cx} {c:Expr} {t:TT} (h:PT X c t):PTs X [c] t:=fun pins s σ H Q I q=>wpAny_tests_one (h pins s σ H Q I q)
def tLCb (J:It) (τ:St) (g:TG) (tc:TT) (te:TE) (Qf:List V->Hp->Prop) (H1:Hp):Prop :=
 ∃ Pv:Nat->Nat->St->List V->Hp->Prop,(∃ m,Pv 0 m τ [] H1)/\∀ i m τ acc H,Pv i m τ acc H ->
  (J.stop i H/\Qf acc H) \/
  (J.go i H/\acc.length<sizeLine/\∀ x H',J.yld i H x H'->g x τ H' fun σ2 H2=>tc σ2 H2 fun b H3=>if b=true then te σ2 H3 fun v H4=>∃ m',m' < m/\Pv (i+1) m' σ2 (acc++[v]) H4 else ∃ m',m' < m/\Pv (i+1) m' σ2 acc H3)
structure Off (X:Cx) (pins:List (Addr×Obj)) (C:Addr):Prop where
 ne:C≠X.env.locals
 ge:X.s₀.heap.objs.size<=C
 cl:∀ x c,X.env.cells.lookup x=some c->c≠C
 pn:∀ p∈X.pn++pins,p.1≠C
theorem Off.turned {X:Cx} {pins:List (Addr×Obj)} {C:Addr} {σ:St} {H:Hp} {s:Shared} {h':Heap} (o:Off X pins C) (I:Inv X pins σ H s) (hn:H C=none) (k:Heap.SameBut C s.heap h'):Inv X pins σ H { s with heap:=h' } :=
 I.turned (t':=s.toks) (fun b u hb e=>k.extBut b u hb e) hn o.ne (.inr o.ge) o.cl o.pn
theorem Inv.off {X:Cx} {pins:List (Addr×Obj)} {σ:St} {H:Hp} {s:Shared} {C:Addr} (I:Inv X pins σ H s) (hC:s.heap.objs.size<=C):Off X pins C :=
 ⟨(Nat.ne_of_lt (Nat.lt_of_lt_of_le I.lt hC)).symm,Nat.le_trans I.sz hC,fun x c h=>by
  obtain ⟨v,o,e,_⟩:=I.cell x c h
  exact Nat.ne_of_lt (Nat.lt_of_lt_of_le (Heap.lt_size e) hC),fun p hp=>Nat.ne_of_lt (Nat.lt_of_lt_of_le (Heap.lt_size (I.pin p hp).1) hC)⟩
abbrev lobj (its:List Value) (n:Nat):Obj:={ cls:=.type "list", data:=.seq its.toArray n }
set_option maxHeartbeats 8000000 in
theorem zkx {X:Cx} {pins:List (Addr×Obj)} {σ τ:St} {H2:Hp} {s2:Shared} {sc:Scope} {N:List Str} {fp:List Addr} {it:Addr} {tn:Nat->Heap->Prop} {J:It} {tg iter elt:Expr} {ifs:List Expr} {pos:Pos} {g:TG} {tc:TT} {te:TE}
  {Qf:List V->Hp->Prop} {RR:Value->Addr->Result->Shared->Prop} {E:Value->Shared->Prop}
  (hc:X.calm=true) (I2:Inv X pins σ H2 s2) (T:Turn X.prog X.w X.K tg J fp it tn) (t0:tn 0 s2.heap) (f2:∀ b∈fp,FpOk X pins H2 b) (B:BlkSc X sc) (hl:τ.length=N.length)
  (cap:∀ (i:Nat) (x:Str) (v:V),N[i]?=some x->τ[i]?=some (some v)->Vis (relabel sc X.env) x->(relabel sc X.env).names.lookup x≠some .local/\∃ j:Nat,X.N[j]?=some x/\σ[j]?=some (some v))
  (hg:∀ X',IsBlock X N sc X'->PG X' tg g) (ht:∀ X',IsBlock X N sc X'->PTs X' ifs tc) (he:∀ X',IsBlock X N sc X'->PE X' elt te)
  (h:tLCb J τ g tc te Qf H2)
  (fin:∀ (D C:Addr) (acc:List V) (H':Hp) (s':Shared) (m:Str->Option Value),D≠C->H' D=none->H' C=none->Off X pins C->Inv X pins σ (upd H' D (.lst acc)) s'->s'.heap.Ns C m->Qf acc H'->RR (.ref D) C (.ok .next) s') :
  wpAny (model X.prog X.w) X.A (newList []) (fun acc s₃=>wpAny (model X.prog X.w) X.A (newFunctionEnv sc X.env.globals (clo X.env sc.names []) [] X.env.qual none .none (some X.env)) (fun cenv s₄ =>
   codeAny (model X.prog X.w) X.A (.compStart (.ListComp elt [⟨tg,iter,ifs,0⟩] sc pos) 0 (.ref it) acc { cenv with scope:=relabel sc X.env }) (RR acc cenv.locals) s₄) E s₃) E s2:=by
 refine wpAny_newObj_type (wpAny_newFunctionEnv B.nocell (by intro y hy;simp at hy) (fun h₁ hns₁ hsb₁=>?_) B.kind)
 dsimp only at hns₁ hsb₁ ⊢
 generalize hH2:s2.heap.push { cls:=.type "list", dict:=none,data:=.seq ([]:List Value).toArray }=G2 at hns₁ hsb₁ ⊢
 have hC:G2.objs.size=s2.heap.objs.size+1:=by rw [← hH2,Heap.size_push]
 have hDC:s2.heap.objs.size≠G2.objs.size:=by rw [hC];exact Nat.ne_of_lt (Nat.lt_succ_self _)
 have hCle:s2.heap.objs.size<=G2.objs.size:=by rw [hC];exact Nat.le_succ _
 have below:∀ b,b<s2.heap.objs.size->b≠G2.objs.size/\b≠s2.heap.objs.size:=fun b hb=>⟨by rw [hC];exact Nat.ne_of_lt (Nat.lt_succ_of_lt hb),Nat.ne_of_lt hb⟩
 have hfp:∀ b∈fp,b<s2.heap.objs.size:=fun b hb=>by
  obtain ⟨o,e,_⟩:=T.obj _ _ t0 b hb
  exact Heap.lt_size e
 have hDf:∀ b∈fp,b≠s2.heap.objs.size:=fun b hb=>(below b (hfp b hb)).2
 have hCf:∀ b∈fp,b≠G2.objs.size:=fun b hb=>(below b (hfp b hb)).1
 have old:∀ b o,s2.heap.get? b=some o->h₁.get? b=some o:=fun b o e=>hsb₁.extBut b o (below b (Heap.lt_size e)).1 (Heap.get?_push_of_some _ (hH2▸Heap.get?_push_of_some _ e))
 have hacc:h₁.get? s2.heap.objs.size=some (lobj [] 0):=hsb₁.extBut _ _ hDC (Heap.get?_push_of_some _ (hH2▸Heap.get?_push_size _ rfl))
 have fresh:∀ a,s2.heap.objs.size<=a->s2.heap.get? a=none:=fun a ha=>by
  cases e:s2.heap.get? a with
  |none=>rfl
  |some o'=>exact absurd (Heap.lt_size e) (Nat.not_lt.mpr ha)
 have hsub:∀ b∈frs X.stack,b<s2.heap.objs.size:=fun b hb=>by
  obtain ⟨_,o,e,_⟩:=I2.stack.mem hb
  exact Heap.lt_size e
 obtain ⟨Pv,⟨m0,p0⟩,step⟩:=h
 generalize hD:s2.heap.objs.size=D at *
 generalize hCe:G2.objs.size=C at *
 have hXb:IsBlock X N sc (zcL X N sc C s2 H2 fp pins):=zjr ..
 generalize hXd:zcL X N sc C s2 H2 fp pins=X' at hXb
 have J0:Inv X' [] τ H2 { s2 with heap:=h₁,toks:=s2.toks+([]:List (Str×Value)).length }:=by
  rw [← hXd]
  exact zk4 I2 B f2 (by rw [hD];exact hfp) (by rw [hD];exact hCle) rfl rfl old hns₁ hl cap
 have offD:Off X' [] D:=by
  rw [← hXd]
  refine ⟨hDC,by show s2.heap.objs.size<=D;rw [hD];exact Nat.le_refl _,fun x c hx=>?_,fun p hp=>?_⟩
  .obtain ⟨v,o,e,_⟩:=I2.cell x c (zbw I2.ok B hx).1
   have:=Heap.lt_size e
   rw [hD] at this
   exact Nat.ne_of_lt this
  .have hp':p∈X.pn++pins:=by simpa [zcL] using hp
   have:=Heap.lt_size (I2.pin p hp').1
   rw [hD] at this
   exact Nat.ne_of_lt this
 have offC:Off X pins C:=I2.off (by rw [hD];exact hCle)
 have fpok:∀ {H':Hp} {ob:Obj},(∀ b∈fp,H' b=none)->∀ b∈fp,FpOk X' [(D,ob)] H' b:=fun {H' ob} hn b hb=>by
  rw [← hXd]
  refine ⟨hn b hb,hCf b hb,fun z=>(ziO (N:=N) I2 B f2 (by rw [hD];exact hfp) (by rw [hD];exact hCle)).exfs b hb z,.inl hb,fun x c hx=>(f2 b hb).2.2.2.2.1 x c (zbw I2.ok B hx).1,fun p hp=>?_⟩
  rcases List.mem_append.mp hp with hp | hp
  .exact (f2 b hb).2.2.2.2.2 p hp
  .rw [List.mem_singleton.mp hp];exact (hDf b hb).symm
 have Dfs:D∉X'.fs:=by
  rw [← hXd]
  intro z
  exact Nat.lt_irrefl _ (hsub D z)
 have pinD:∀ {H':Hp} {τ':St} {s':Shared} {its:List Value} {n:Nat},Inv X' [] τ' H' s'->H' D=none->s'.heap.get? D=some (lobj its n)->Inv X' [(D,lobj its n)] τ' H' s':=fun {H' τ' s' its n} I hn e =>
  I.pins_of fun p hp=>by
   rw [List.mem_singleton.mp hp]
   exact ⟨e,hn,by rw [← hXd];exact hDC,Dfs,fun v z=>nomatch z⟩
 have loop:∀ s₃:Shared,s₃={ s2 with heap:=h₁,toks:=s2.toks+([]:List (Str×Value)).length } ->
   codeAny (model X.prog X.w) X.A (.compLoop (.ListComp elt [⟨tg,iter,ifs,0⟩] sc pos) 0 (.ref it) (.ref D) (compEnvC sc (clo X.env sc.names []) C X.env)) (RR (.ref D) C) s₃:=by
  rintro s₃ rfl
  have tn0:tn 0 h₁:=T.keep _ _ _ t0 fun b _ o e=>old b o e
  have fr0:∀ b∈fp,H2 b=none:=fun b hb=>(f2 b hb).1
  have Df0:H2 D=none:=I2.hok.fresh (by rw [hD];exact Nat.le_refl _)
  have eX:X'.env=compEnvC sc (clo X.env sc.names []) C X.env:=by rw [← hXd];rfl
  have ep:X'.prog=X.prog:=hXb.prog
  have ew:X'.w=X.w:=hXb.w
  have eA:X'.A=X.A:=hXb.A
  refine zgZ (fun k s'=>∃ i τ' acc H' its n,Inv X' [] τ' H' s'/\tn i s'.heap/\(∀ b∈fp,H' b=none)/\H' D=none/\s'.heap.get? D=some (lobj its n)/\Vals acc its/\acc.length<=sizeLine/\Pv i k τ' acc H') ?_ m0 ⟨0,τ,[],H2,[],0,J0,tn0,fr0,Df0,hacc,.nil,Nat.zero_le _,p0⟩
  rintro k s3 ⟨i,τ3,acc,H3,its,n,I3,st3,fr3,D3,o3,v3,lenA,p3⟩
  have I3':=pinD I3 D3 o3
  rcases step i k τ3 acc H3 p3 with ⟨stop,qf⟩ | ⟨go,hsz,turn⟩
  .have td:=T.done X' ep ew hXb.K (by rw [hXb.calm];exact hc) i _ s3 τ3 H3 (fun _ _=>False) I3' (fpok fr3) st3 stop
   rw [eA] at td
   refine thn td fun r s4 ⟨hr,I4⟩=>?_
   subst hr
   have o4:=(I4.pin (D,lobj its n) (List.mem_append_right _ (List.mem_singleton.mpr rfl))).1
   obtain ⟨m4,hn4,_⟩:=I4.loc
   rw [eX] at hn4
   refine fin D C acc H3 s4 m4 hDC D3 ?_ offC ?_ hn4 qf
   .have:=I4.free;rw [eX] at this;exact this
   .have base:Un (frs X.stack) fp H2 H3 s2.heap s4.heap:=by have:=I4.base;rw [← hXd] at this;exact this
    have hb:∀ b o,s2.heap.get? b=some o->b≠D:=fun b o e=>by have:=Heap.lt_size e;rw [hD] at this;exact Nat.ne_of_lt this
    refine I2.call' (ch:=fp) (by have:=I4.os;rw [← hXd] at this;exact this) ⟨base.keep,base.slot,fun b o e n' hx=>?_,base.there,fun b xs e=>?_,fun b o u e=>?_,fun b ps e=>?_⟩ ?_ I4.bare ?_
    .rw [zam (hb b o e)];exact base.free b o e n' hx
    .rw [zam (zaq (base.tups b xs e) D3)];exact base.tups b xs e
    .rw [zam (zaq (base.frzs b o u e) D3)];exact base.frzs b o u e
    .obtain ⟨mo,e'⟩:=base.tbls b ps e
     exact ⟨mo,by rw [zam (zaq e' D3)];exact e'⟩
    .have hk:=I4.hok
     rw [ep,ew] at hk
     exact hk.adopt (fun b u v _ q=>q) D3 ⟨lenA,its,n,v3,o4⟩
    .intro b hb'
     obtain ⟨q1,q2,q3,q4,q5,q6⟩:=f2 b hb'
     exact ⟨q4,q2,q5,q6⟩
  .have td:=T.item X' ep ew hXb.K (by rw [hXb.calm];exact hc) i _ s3 τ3 H3 (fun _ _=>False) I3' (fpok fr3) st3 go
   rw [eA] at td
   refine thn td fun r s4 ⟨u,hr,h4⟩=>?_
   subst hr
   refine thn h4 fun _ s5 ⟨x,H5,I5,r5,y5,st5,fr5⟩=>?_
   have I5':=I5.pinned (fpok fr5) (T.obj _ _ st5)
   have q1:=hg X' hXb _ s5 τ3 H5 x u _ I5' r5 (turn x H5 y5)
   rw [ep,ew,eA,eX,hXb.xe] at q1
   refine thn q1 fun _ s6 ⟨σ6,H6,I6,q6⟩=>?_
   have q2:=ht X' hXb _ s6 σ6 H6 _ I6 q6
   rw [ep,ew,eA,eX,hXb.xe] at q2
   refine thn q2 fun b s7 ⟨H7,I7,q7⟩=>?_
   have back:∀ {H8:Hp} {s8:Shared},Inv X' ([(D,lobj its n)]++zeA fp s5.heap) σ6 H8 s8->Inv X' [] σ6 H8 s8/\tn (i+1) s8.heap/\(∀ b∈fp,H8 b=none)/\H8 D=none/\s8.heap.get? D=some (lobj its n):=fun {H8 s8} I8=>by
    have pp:∀ p,p∈[(D,lobj its n)]++zeA fp s5.heap->_:=fun p hp=>I8.pin p (List.mem_append_right _ hp)
    refine ⟨I8.pins_of (pins':=[]) (fun p hp=>nomatch hp),T.keep _ _ _ st5 fun b hb o e=>(pp (b,o) (List.mem_append_right _ (zcj hb e))).1,fun b hb=>?_,?_,?_⟩
    .obtain ⟨o,e,d⟩:=T.obj _ _ st5 b hb
     exact (pp (b,o) (List.mem_append_right _ (zcj hb e))).2.1
    .exact (pp (D,lobj its n) (List.mem_append_left _ (List.mem_singleton.mpr rfl))).2.1
    .exact (pp (D,lobj its n) (List.mem_append_left _ (List.mem_singleton.mpr rfl))).1
   cases b with
   |false =>
    rw [if_neg (by decide)] at q7
    rw [if_neg (by decide)]
    obtain ⟨m',hm,p'⟩:=q7
    obtain ⟨b1,b2,b3,b4,b5⟩:=back I7
    exact ⟨m',hm,i+1,σ6,acc,H7,its,n,b1,b2,b3,b4,b5,v3,lenA,p'⟩
   |true =>
    rw [if_pos rfl] at q7
    rw [if_pos rfl]
    have q3:=he X' hXb _ s7 σ6 H7 _ I7 q7
    rw [ep,ew,eA,eX,hXb.xe] at q3
    refine thn q3 fun y s8 ⟨v,H8,I8,r8,m',hm,p'⟩=>?_
    obtain ⟨b1,b2,b3,b4,b5⟩:=back I8
    refine append_at (hsz:=by show its.toArray.size<=sizeLine;rw [List.size_toArray,← v3.length];exact Nat.le_of_lt hsz) b5 fun h₅ hs₅ hD₅=>?_
    refine ⟨m',hm,i+1,σ6,acc++[v],H8,its++[y],n+1,offD.turned b1 b4 hs₅,T.keep _ _ _ b2 fun b hb o e=>hs₅.extBut b o (hDf b hb) e,b3,b4,?_,v3.append (.cons r8 .nil),by rw [List.length_append];exact hsz,p'⟩
    show h₅.get? D=_
    rw [hD₅,List.push_toArray]
 exact codeAny_compStart_list (loop _ rfl) (T.self _ 0 _ _ _ (T.keep _ _ _ t0 fun b _ o e=>old b o e) (loop _ rfl))
def tLC (wi:TI) (cap:St->St) (g:TG) (tc:TT) (te:TE):TE:=fun σ H Q=>wi σ H fun J H1=>tLCb J (cap σ) g tc te (fun acc H'=>∀ p,H' p=none->Q (.ref p) (upd H' p (.lst acc))) H1
section
variable {X : Cx} {sc : Scope} {N : List Str} {tg iter elt : Expr} {ifs : List Expr} {pos : Pos} {wi : TI} {g : TG} {tc : TT} {te : TE} {cap : St → St}
def Caps (X:Cx) (sc:Scope) (N:List Str) (cap:St->St):Prop:=∀ σ:St,σ.length=X.N.length->(cap σ).length=N.length /\
 ∀ (i:Nat) (x:Str) (v:V),N[i]?=some x->(cap σ)[i]?=some (some v)->Vis (relabel sc X.env) x->(relabel sc X.env).names.lookup x≠some .local/\∃ j:Nat,X.N[j]?=some x/\σ[j]?=some (some v)
theorem pe_lc (hc:X.calm=true) (hi:PI X tg iter wi) (B:BlkSc X sc) (hcap:Caps X sc N cap)
  (hg:∀ X',IsBlock X N sc X'->PG X' tg g) (ht:∀ X',IsBlock X N sc X'->PTs X' ifs tc) (he:∀ X',IsBlock X N sc X'->PE X' elt te)
  (hs:∀ x,foldedSetIterable iter X.env x=pure x:=by intro _;rfl):PE X (.ListComp elt [⟨tg,iter,ifs,0⟩] sc pos) (tLC wi cap g tc te):=by
 intro pins s σ H Q I h
 rw [eval_ListComp]
 refine wpAny_comprehension_free (use:=none) rfl hs (zeU fun x hx=>I.ok.has x (B.free x hx)) B.kind B.names (thn (hi pins s σ H _ I h) fun v s1 h1=>thn h1 fun itv s2 h2=>?_)
 obtain ⟨it,fp,tn,J,H2,e,I2,T,st2,f2,q⟩:=h2
 subst e
 obtain ⟨cl,cc⟩:=hcap σ I.len
 refine zkx (RR:=fun acc C=>compPost (model X.prog X.w) X.A X.xe none (EP X pins σ Q) acc C) hc I2 T st2 f2 B cl cc hg ht he q fun D C acc H' s' m hDC hD hC off I' hn qf=>?_
 refine ⟨m,hn,fun h' hk=>⟨.ref D,_,off.turned I' (by rw [zam hDC.symm];exact hC) hk,rfl,qf D hD⟩⟩
theorem zlP {i:Nat} {y:Str} {py spos:Pos} (hc:X.calm=true) (hi:PI X tg iter wi) (B:BlkSc X sc) (hcap:Caps X sc N cap)
  (hg:∀ X',IsBlock X N sc X'->PG X' tg g) (ht:∀ X',IsBlock X N sc X'->PTs X' ifs tc) (he:∀ X',IsBlock X N sc X'->PE X' elt te)
  (hN:X.N.Nodup) (hy:X.N[i]?=some y) (hx:Loc X.env.scope y) (hf:X.fn y=true\/X.env.scope.names.lookup y=some .local)
  (hsw:swapsWith (.ListComp elt [⟨tg,iter,ifs,0⟩] sc pos) (some (.Name y py)) spos.line X.env=pure true)
  (hs:∀ x,foldedSetIterable iter X.env x=pure x:=by intro _;rfl):PS X (.Assign [.Name y py] (.ListComp elt [⟨tg,iter,ifs,0⟩] sc pos) spos) (tAsg (tLC wi cap g tc te) (zmF i)):=by
 intro pins s σ H D I h
 rw [exec_Assign_Name_used _ _ _ _ hsw]
 refine wpAny_bind (wpAny_standAt (wpAny_bind ?_))
 show wpAny _ X.A (do let _ ← comprehension (.ListComp elt [⟨tg,iter,ifs,0⟩] sc pos) sc X.env _ (newList []) false (eval iter X.env) (some (assign (.Name y py) X.env))) _ _ s
 refine wpAny_bind (wpAny_mono (wpAny_comprehension_free (use:=some (assign (.Name y py) X.env)) (Q:=fun _ s'=>SP X pins D .next s') rfl hs (zeU fun x hx=>I.ok.has x (B.free x hx)) B.kind B.names
  (thn (hi pins s σ H _ I h) fun v s1 h1=>thn h1 fun itv s2 h2=>?_)) (fun _ s' hq=>wpAny_pure (wpAny_pure hq)) fun _ _ e=>e)
 obtain ⟨it,fp,tn,J,H2,e,I2,T,st2,f2,q⟩:=h2
 subst e
 obtain ⟨cl,cc⟩:=hcap σ I.len
 refine zkx (RR:=fun acc C=>compPost (model X.prog X.w) X.A X.xe (some (assign (.Name y py) X.env)) (fun _ s'=>SP X pins D .next s') acc C) hc I2 T st2 f2 B cl cc hg ht he q fun D' C acc H' s' m hDC hD hC off I' hn qf=>?_
 show wpAny _ X.A (assign (.Name y py) X.env (.ref D')) _ _ _
 refine wpAny_assign_Name (zfV I' hN hy hx (v:=.ref D') rfl (fun s'' I'' hsm=>?_) hf)
 obtain ⟨a,hsb,ha⟩:=hsm
 have hCa:C≠a:=by
  rcases ha with ha | ha
  .rw [ha];exact off.ne
  .exact (off.cl y a ha).symm
 refine ⟨m,hn.sameBut hsb hCa,fun h' hk=>⟨_,_,off.turned I'' (by rw [zam hDC.symm];exact hC) hk,qf D' hD⟩⟩
end
end L2
set_option Elab.async false
set_option linter.all false
set_option maxRecDepth 100000
set_option maxHeartbeats 4000000
namespace L3
open PySem PySem.Spec PyProof.Rows L2 PySem.SeqAt
mutual
def eqW:W->W->Bool
 | .non,.non=>true
 | .bl a,.bl b=>a==b
 | .bl a,.int j=>(if a then 1 else 0)==j
 | .int i,.bl b=>i==(if b then 1 else 0)
 | .int i,.int j=>i==j
 | .str x,.str y=>x==y
 | .tup xs,.tup ys=>eqWs xs ys
 |_,_=>false
def eqWs:List W->List W->Bool
 | [],[]=>true
 |x::xs,y::ys=>eqW x y&&eqWs xs ys
 |_,_=>false
end
mutual
def pur:W->Bool
 | .ref _=>false
 | .ty _=>false
 | .lsf _=>false
 | .exc _ _ _=>false
 | .dcf _ _=>false
 | .tup ws=>purs ws
 |_=>true
def purs:List W->Bool
 | []=>true
 |w::ws=>pur w&&purs ws
end
mutual
def dep:W->Nat
 | .tup ws=>deps ws+1
 |_=>0
def deps:List W->Nat
 | []=>0
 |w::ws=>max (dep w) (deps ws)
end
theorem zax {w:W} {ws:List W}:purs (w::ws)=true↔pur w=true/\purs ws=true:=by simp [purs]
section
variable {X : Cx} {pins : List (Addr × Obj)} {σ : L2.St} {H : Hp} {s : Shared}
theorem W.ind {P:W->Prop} (non:P .non) (bl:∀ b,P (.bl b)) (int:∀ i,P (.int i)) (str:∀ x,P (.str x)) (ty:∀ n,P (.ty n)) (ref:∀ a,P (.ref a)) (tup:∀ ws,(∀ w∈ws,P w)->P (.tup ws)) (lsf:∀ ws,P (.lsf ws)) (exc:∀ C ns ws,P (.exc C ns ws)) (dcf:∀ ks ws,P (.dcf ks ws)):∀ w:W,P w:=fun w =>
 W.rec (motive_1:=P) (motive_2:=fun ws=>∀ w∈ws,P w) non bl int str ty ref (fun ws h=>tup ws h) (fun ws _=>lsf ws) (fun C ns ws _=>exc C ns ws) (fun ks ws _=>dcf ks ws) (fun _ h=>nomatch h) (fun w ws h hs v hv=>(List.mem_cons.mp hv).elim (fun e=>e▸h) (hs v)) w
theorem purs_mem {ws:List W} (h:purs ws=true):∀ w∈ws,pur w=true:=by
 induction ws with
 |nil=>intro w hw;cases hw
 |cons x xs ih =>
  intro w hw
  have h':=zax.mp h
  rcases List.mem_cons.mp hw with e | hw
  .rw [e];exact h'.1
  .exact ih h'.2 w hw
theorem zjq:∀ (ws:List W),(∀ w∈ws,pur w=true->eqW w w=true)->purs ws=true->eqWs ws ws=true:=by
 intro ws
 induction ws with
 |nil=>intro _ _;simp [eqWs]
 |cons w ws ih =>
  intro h hp
  have h':=zax.mp hp
  simp only [eqWs,h w List.mem_cons_self h'.1,ih (fun z hz=>h z (List.mem_cons_of_mem _ hz)) h'.2,Bool.and_self]
theorem zdx {w:W}:pur w=true->eqW w w=true:=by
 induction w using W.ind with
 |non=>intro _;simp [eqW]
 |bl _=>intro _;simp [eqW]
 |int _=>intro _;simp [eqW]
 |str _=>intro _;simp [eqW]
 |ty _=>intro h;cases h
 |lsf _=>intro h;cases h
 |exc _ _ _=>intro h;cases h
 |dcf _ _=>intro h;cases h
 |ref _=>intro h;cases h
 |tup ws ih=>intro h;exact zjq ws ih h
theorem zgf (I:Inv X pins σ H s):∀ (xs ys:List W) (vs:List V),(∀ x∈xs,∀ (y:W) (v:V),Rep X.K H x v->Rep X.K H y v->pur x=true->pur y=true->x=y)->Reps X.K H xs vs->Reps X.K H ys vs->purs xs=true->purs ys=true->xs=ys:=by
 intro xs
 induction xs with
 |nil =>
  intro ys vs _ h h' _ _
  cases ys with
  |nil=>rfl
  |cons y ys=>obtain ⟨_,_,e,_⟩:=h';rw [show _=[] from h] at e;cases e
 |cons x xs ih =>
  intro ys vs hx h h' px py
  obtain ⟨v,r,e,q,t⟩:=h
  subst e
  cases ys with
  |nil=>cases h'
  |cons y ys =>
   obtain ⟨v',r',e',q',t'⟩:=h'
   cases e'
   rw [hx x List.mem_cons_self y v q q' (zax.mp px).1 (zax.mp py).1,ih ys r (fun z hz=>hx z (List.mem_cons_of_mem _ hz)) t t' (zax.mp px).2 (zax.mp py).2]
theorem zj7 (I:Inv X pins σ H s):∀ (x y:W) (v:V),Rep X.K H x v->Rep X.K H y v->pur x=true->pur y=true->x=y:=by
 intro x
 induction x using W.ind with
 |tup xs ih =>
  intro y v h h' hx hy
  obtain ⟨a,vs,e,q,r⟩:=h
  subst e
  cases y with
  |tup ys =>
   obtain ⟨b,us,e',q',r'⟩:=h'
   cases e'
   have:=I.tuple_inj q q'
   subst this
   rw [zgf I xs ys vs ih r r' hx hy]
  |ref _=>cases hy
  |ty _=>cases hy
  |lsf _=>cases hy
  |exc _ _ _=>cases hy
  |dcf _ _=>cases hy
  |non=>cases h'
  |bl _=>cases h'
  |int _=>cases h'
  |str _=>cases h'
 |ty _=>intro y v _ _ hx;cases hx
 |lsf _=>intro y v _ _ hx;cases hx
 |exc _ _ _=>intro y v _ _ hx;cases hx
 |dcf _ _=>intro y v _ _ hx;cases hx
 |ref _=>intro y v _ _ hx;cases hx
 |non =>
  intro y v h h' _ hy
  cases h
  cases y with
  |tup ys=>obtain ⟨_,_,e,_⟩:=h';cases e
  |ref _=>cases hy
  |ty _=>cases hy
  |lsf _=>cases hy
  |exc _ _ _=>cases hy
  |dcf _ _=>cases hy
  |non=>rfl
  |bl _=>cases h'
  |int _=>cases h'
  |str _=>cases h'
 |bl _ =>
  intro y v h h' _ hy
  cases h
  cases y with
  |tup ys=>obtain ⟨_,_,e,_⟩:=h';cases e
  |ref _=>cases hy
  |ty _=>cases hy
  |lsf _=>cases hy
  |exc _ _ _=>cases hy
  |dcf _ _=>cases hy
  |non=>cases h'
  |bl _=>cases h';rfl
  |int _=>cases h'
  |str _=>cases h'
 |int _ =>
  intro y v h h' _ hy
  cases h
  cases y with
  |tup ys=>obtain ⟨_,_,e,_⟩:=h';cases e
  |ref _=>cases hy
  |ty _=>cases hy
  |lsf _=>cases hy
  |exc _ _ _=>cases hy
  |dcf _ _=>cases hy
  |non=>cases h'
  |bl _=>cases h'
  |int _=>cases h';rfl
  |str _=>cases h'
 |str _ =>
  intro y v h h' _ hy
  cases h
  cases y with
  |tup ys=>obtain ⟨_,_,e,_⟩:=h';cases e
  |ref _=>cases hy
  |ty _=>cases hy
  |lsf _=>cases hy
  |exc _ _ _=>cases hy
  |dcf _ _=>cases hy
  |non=>cases h'
  |bl _=>cases h'
  |int _=>cases h'
  |str _=>cases h';rfl
theorem zlH (I:Inv X pins σ H s) {xs ys:List W} {vs:List V} (h:Reps X.K H xs vs) (h':Reps X.K H ys vs) (hx:purs xs=true) (hy:purs ys=true):xs=ys :=
 zgf I xs ys vs (fun x _=>zj7 I x) h h' hx hy
def zeg (xs ys:List W) (j:Nat):Bool:=match xs[j]?,ys[j]? with
 |some x,some y=>eqW x y
 |_,_=>false
theorem zd5:∀ xs ys:List W,((List.range (min xs.length ys.length)).all (zeg xs ys)&&xs.length==ys.length)=eqWs xs ys
 | [],[]=>rfl
 | [],_::_=>by simp [eqWs]
 |_::_,[]=>by simp [eqWs]
 |x::xs,y::ys=>by
  have ih:=zd5 xs ys
  simp only [List.length_cons,Nat.add_min_add_right,eqWs]
  rw [List.range_succ_eq_map,List.all_cons,List.all_map]
  have h0:zeg (x::xs) (y::ys) 0=eqW x y:=rfl
  have h1:(zeg (x::xs) (y::ys) ∘ Nat.succ)=zeg xs ys:=by funext j;simp [zeg]
  rw [h0,h1,← ih,Bool.and_assoc]
  congr 2
  simp
theorem zmJ {xs ys:List W} (h:xs.length≠ys.length):eqWs xs ys=false:=by
 rw [← zd5]
 have:(xs.length==ys.length)=false:=by simpa using h
 rw [this,Bool.and_false]
theorem zkQ {xs ys:List W} (h:xs.length=ys.length):(List.range xs.length).all (zeg xs ys)=eqWs xs ys:=by
 rw [← zd5,h,Nat.min_self];simp
theorem zaN (I:Inv X pins σ H s) {ws:List W} {v:V} {u:Value} (h:Rep X.K H (.tup ws) v) (r:RelV v u):∃ a vs its,v=.ref a/\u=.ref a/\SqT X.K H a vs/\Reps X.K H ws vs/\Vals vs its/\s.heap.IsTuple a its.toArray/\ws.length<=sizeLine:=by
 obtain ⟨a,vs,rfl,q,rs⟩:=h
 obtain ⟨its,vr,it,hl⟩:=I.tuple q
 exact ⟨a,vs,its,rfl,r,q,rs,vr,it,by rw [← rs.length];exact hl⟩
theorem ziK (I:Inv X pins σ H s):∀ (xs ys:List W) (vs vs':List V) (us us':List Value) (A:Around),(∀ x∈xs,∀ (y:W) (v v':V) (u u':Value) (A:Around),Rep X.K H x v->RelV v u->Rep X.K H y v'->RelV v' u'->pur x=true->pur y=true->A.units+min (dep x) (dep y)<cLine->EqAt A s u u' (eqW x y)) ->
  Reps X.K H xs vs->Vals vs us->Reps X.K H ys vs'->Vals vs' us'->purs xs=true->purs ys=true ->
  A.units+min (deps xs) (deps ys)<cLine->∀ (j:Nat) (h1:j<us.length) (h2:j<us'.length),EqAt A s us[j] us'[j] (zeg xs ys j):=by
 intro xs
 induction xs with
 |nil=>intro ys vs vs' us us' A _ h r _ _ _ _ _ j h1;rw [show _=[] from h] at r;cases r;exact absurd h1 (Nat.not_lt_zero _)
 |cons x xs ih =>
  intro ys vs vs' us us' A he h r h' r' hx hy hu j h1 h2
  cases ys with
  |nil=>rw [show _=[] from h'] at r';cases r';exact absurd h2 (Nat.not_lt_zero _)
  |cons y ys =>
   obtain ⟨v,t,e,h,hs⟩:=h
   obtain ⟨v',t',e',h',hs'⟩:=h'
   subst e;subst e'
   cases r with
   |cons r rs =>
    cases r' with
    |cons r' rs' =>
     have px:=zax.mp hx
     have py:=zax.mp hy
     simp only [deps] at hu
     cases j with
     |zero=>exact he x List.mem_cons_self y _ _ _ _ A h r h' r' px.1 py.1 (by omega)
     |succ j=>exact ih ys _ _ _ _ A (fun z hz=>he z (List.mem_cons_of_mem _ hz)) hs rs hs' rs' px.2 py.2 (by omega) j (Nat.lt_of_succ_lt_succ h1) (Nat.lt_of_succ_lt_succ h2)
theorem zkU (I:Inv X pins σ H s):∀ (x y:W) (v v':V) (u u':Value) (A:Around),Rep X.K H x v->RelV v u->Rep X.K H y v'->RelV v' u'->pur x=true->pur y=true->A.units+min (dep x) (dep y)<cLine->EqAt A s u u' (eqW x y):=by
 intro x
 induction x using W.ind with
 |tup xs ih =>
  intro y v v' u u' A h r h' r' hx hy hu
  obtain ⟨a,vs,its,rfl,rfl,q,rs,vr,it,_⟩:=zaN I h r
  cases y with
  |tup ys =>
   obtain ⟨b,us,its',rfl,rfl,q',rs',vr',it',_⟩:=zaN I h' r'
   by_cases e:a=b
   .subst e
    have:=I.tuple_inj q q'
    subst this
    have:=zlH I rs rs' hx hy
    subst this
    rw [show eqW (.tup xs) (.tup xs)=true from zdx (w:=.tup xs) hx]
    exact EqAt.same _
   .show EqAt A s _ _ (eqWs xs ys)
    rw [← zd5]
    have l1:its.toArray.size=xs.length:=by rw [List.size_toArray,← vr.length,rs.length]
    have l2:its'.toArray.size=ys.length:=by rw [List.size_toArray,← vr'.length,rs'.length]
    rw [← l1,← l2]
    refine EqAt.of_refs e (RcAt.tuples it it' (by simp only [dep] at hu;omega) fun j j1 j2=>?_)
    exact ziK I xs ys _ _ _ _ A.in1 ih rs vr rs' vr' hx hy (by simp only [dep] at hu;show A.units+1+_<_;omega) j (by simpa using j1) (by simpa using j2)
  |ref _=>cases hy
  |ty _=>cases hy
  |lsf _=>cases hy
  |exc _ _ _=>cases hy
  |dcf _ _=>cases hy
  |non=>cases h';cases r';exact EqAt.tuple_none it (by omega)
  |bl _=>cases h';cases r';exact EqAt.tuple_bool _ it (by omega)
  |int _=>cases h';obtain ⟨t,rfl⟩:=r';exact EqAt.tuple_int _ _ it (by omega)
  |str _=>cases h';obtain ⟨t,rfl⟩:=r';exact EqAt.tuple_str _ _ it (by omega)
 |ty _=>intro y v v' u u' A _ _ _ _ hx;cases hx
 |lsf _=>intro y v v' u u' A _ _ _ _ hx;cases hx
 |exc _ _ _=>intro y v v' u u' A _ _ _ _ hx;cases hx
 |dcf _ _=>intro y v v' u u' A _ _ _ _ hx;cases hx
 |ref _=>intro y v v' u u' A _ _ _ _ hx;cases hx
 |non =>
  intro y v v' u u' A h r h' r' hx hy hu
  cases h;cases r
  cases y with
  |tup ys=>obtain ⟨b,us,its',rfl,rfl,q',rs',vr',it',_⟩:=zaN I h' r';exact EqAt.none_tuple it' (by omega)
  |ref _=>cases hy
  |ty _=>cases hy
  |lsf _=>cases hy
  |exc _ _ _=>cases hy
  |dcf _ _=>cases hy
  |non=>cases h';cases r';exact EqAt.same _
  |bl _=>cases h';cases r';exact EqAt.none_bool _
  |int _=>cases h';obtain ⟨t,rfl⟩:=r';exact EqAt.none_int _ _
  |str _=>cases h';obtain ⟨t,rfl⟩:=r';exact EqAt.none_str _ _
 |bl _ =>
  intro y v v' u u' A h r h' r' hx hy hu
  cases h;cases r
  cases y with
  |tup ys=>obtain ⟨b,us,its',rfl,rfl,q',rs',vr',it',_⟩:=zaN I h' r';exact EqAt.bool_tuple _ it' (by omega)
  |ref _=>cases hy
  |ty _=>cases hy
  |lsf _=>cases hy
  |exc _ _ _=>cases hy
  |dcf _ _=>cases hy
  |non=>cases h';cases r';exact EqAt.bool_none _
  |bl _=>cases h';cases r';exact EqAt.bool_bool _ _
  |int _=>cases h';obtain ⟨t,rfl⟩:=r';exact EqAt.bool_int _ _ _
  |str _=>cases h';obtain ⟨t,rfl⟩:=r';exact EqAt.bool_str _ _ _
 |int _ =>
  intro y v v' u u' A h r h' r' hx hy hu
  cases h;obtain ⟨t0,rfl⟩:=r
  cases y with
  |tup ys=>obtain ⟨b,us,its',rfl,rfl,q',rs',vr',it',_⟩:=zaN I h' r';exact EqAt.int_tuple _ _ it' (by omega)
  |ref _=>cases hy
  |ty _=>cases hy
  |lsf _=>cases hy
  |exc _ _ _=>cases hy
  |dcf _ _=>cases hy
  |non=>cases h';cases r';exact EqAt.int_none _ _
  |bl _=>cases h';cases r';exact EqAt.int_bool _ _ _
  |int _=>cases h';obtain ⟨t,rfl⟩:=r';exact EqAt.int_int _ _ _ _
  |str _=>cases h';obtain ⟨t,rfl⟩:=r';exact EqAt.int_str _ _ _ _
 |str _ =>
  intro y v v' u u' A h r h' r' hx hy hu
  cases h;obtain ⟨t0,rfl⟩:=r
  cases y with
  |tup ys=>obtain ⟨b,us,its',rfl,rfl,q',rs',vr',it',_⟩:=zaN I h' r';exact EqAt.str_tuple _ _ it' (by omega)
  |ref _=>cases hy
  |ty _=>cases hy
  |lsf _=>cases hy
  |exc _ _ _=>cases hy
  |dcf _ _=>cases hy
  |non=>cases h';cases r';exact EqAt.str_none _ _
  |bl _=>cases h';cases r';exact EqAt.str_bool _ _ _
  |int _=>cases h';obtain ⟨t,rfl⟩:=r';exact EqAt.str_int _ _ _ _
  |str _=>cases h';obtain ⟨t,rfl⟩:=r';exact EqAt.str_str _ _ _ _
theorem zkT (I:Inv X pins σ H s) {xs ys:List W} {vs vs':List V} {us us':List Value} {A:Around} (h:Reps X.K H xs vs) (r:Vals vs us) (h':Reps X.K H ys vs') (r':Vals vs' us') (hx:purs xs=true) (hy:purs ys=true)
  (hu:A.units+min (deps xs) (deps ys)<cLine):∀ (j:Nat) (h1:j<us.length) (h2:j<us'.length),EqAt A s us[j] us'[j] (zeg xs ys j) :=
 ziK I xs ys _ _ _ _ A (fun x _=>zkU I x) h r h' r' hx hy hu
end
end L3
set_option Elab.async false
set_option linter.all false
set_option maxRecDepth 100000
set_option maxHeartbeats 4000000
namespace L3
open PySem PySem.Spec PyProof.Rows L2 PySem.SeqAt
section
variable {X : Cx} {pins : List (Addr × Obj)} {σ : L2.St} {H : Hp} {s : Shared}
theorem zpI (I:Inv X pins σ H s) (x y:W) (v v':V) (u u':Value) (A:Around) (h:Rep X.K H x v) (r:RelV v u) (h':Rep X.K H y v') (r':RelV v' u') (hx:pur x=true) (hy:pur y=true) (hu:A.units+min (dep x) (dep y)<cLine):RcAt A s u u' (eqW x y)/\RcNeAt A s u u' (!eqW x y):=by
 have h0:A.units<cLine:=by omega
 cases x with
 |ref _=>cases hx
 |ty _=>cases hx
 |lsf _=>cases hx
 |exc _ _ _=>cases hx
 |dcf _ _=>cases hx
 |tup xs =>
  obtain ⟨a,vs,its,rfl,rfl,q,rs,vr,it,_⟩:=zaN I h r
  cases y with
  |ref _=>cases hy
  |ty _=>cases hy
  |lsf _=>cases hy
  |exc _ _ _=>cases hy
  |dcf _ _=>cases hy
  |tup ys =>
   obtain ⟨b,us,its',rfl,rfl,q',rs',vr',it',_⟩:=zaN I h' r'
   have l1:its.toArray.size=xs.length:=by rw [List.size_toArray,← vr.length,rs.length]
   have l2:its'.toArray.size=ys.length:=by rw [List.size_toArray,← vr'.length,rs'.length]
   have key:∀ (j:Nat) (j1:j<its.toArray.size) (j2:j<its'.toArray.size),EqAt A.in1 s its.toArray[j] its'.toArray[j] (zeg xs ys j):=fun j j1 j2 =>
    zkT I rs vr rs' vr' hx hy (A:=A.in1) (by simp only [dep] at hu;show A.units+1+_<_;omega) j (by simpa using j1) (by simpa using j2)
   show RcAt A s _ _ (eqWs xs ys)/\RcNeAt A s _ _ (!eqWs xs ys)
   rw [← zd5,← l1,← l2]
   exact ⟨RcAt.tuples it it' h0 key,RcNeAt.tuples it it' h0 key⟩
  |non=>cases h';cases r';exact ⟨RcAt.tuple_none it h0,RcNeAt.tuple_none it h0⟩
  |bl _=>cases h';cases r';exact ⟨RcAt.tuple_bool _ it h0,RcNeAt.tuple_bool _ it h0⟩
  |int _=>cases h';obtain ⟨t,rfl⟩:=r';exact ⟨RcAt.tuple_int _ _ it h0,RcNeAt.tuple_int _ _ it h0⟩
  |str _=>cases h';obtain ⟨t,rfl⟩:=r';exact ⟨RcAt.tuple_str _ _ it h0,RcNeAt.tuple_str _ _ it h0⟩
 |non =>
  cases h;cases r
  cases y with
  |ref _=>cases hy
  |ty _=>cases hy
  |lsf _=>cases hy
  |exc _ _ _=>cases hy
  |dcf _ _=>cases hy
  |tup ys=>obtain ⟨b,us,its',rfl,rfl,q',rs',vr',it',_⟩:=zaN I h' r';exact ⟨RcAt.none_tuple it' h0,RcNeAt.none_tuple it' h0⟩
  |non=>cases h';cases r';exact ⟨RcAt.none_none,RcNeAt.none_none⟩
  |bl _=>cases h';cases r';exact ⟨RcAt.none_bool _,RcNeAt.none_bool _⟩
  |int _=>cases h';obtain ⟨t,rfl⟩:=r';exact ⟨RcAt.none_int _ _,RcNeAt.none_int _ _⟩
  |str _=>cases h';obtain ⟨t,rfl⟩:=r';exact ⟨RcAt.none_str _ _,RcNeAt.none_str _ _⟩
 |bl _ =>
  cases h;cases r
  cases y with
  |ref _=>cases hy
  |ty _=>cases hy
  |lsf _=>cases hy
  |exc _ _ _=>cases hy
  |dcf _ _=>cases hy
  |tup ys=>obtain ⟨b,us,its',rfl,rfl,q',rs',vr',it',_⟩:=zaN I h' r';exact ⟨RcAt.bool_tuple _ it' h0,RcNeAt.bool_tuple _ it' h0⟩
  |non=>cases h';cases r';exact ⟨RcAt.bool_none _,RcNeAt.bool_none _⟩
  |bl _=>cases h';cases r';exact ⟨RcAt.bool_bool _ _,RcNeAt.bool_bool _ _⟩
  |int _=>cases h';obtain ⟨t,rfl⟩:=r';exact ⟨RcAt.bool_int _ _ _,RcNeAt.bool_int _ _ _⟩
  |str _=>cases h';obtain ⟨t,rfl⟩:=r';exact ⟨RcAt.bool_str _ _ _,RcNeAt.bool_str _ _ _⟩
 |int _ =>
  cases h;obtain ⟨t0,rfl⟩:=r
  cases y with
  |ref _=>cases hy
  |ty _=>cases hy
  |lsf _=>cases hy
  |exc _ _ _=>cases hy
  |dcf _ _=>cases hy
  |tup ys=>obtain ⟨b,us,its',rfl,rfl,q',rs',vr',it',_⟩:=zaN I h' r';exact ⟨RcAt.int_tuple _ _ it' h0,RcNeAt.int_tuple _ _ it' h0⟩
  |non=>cases h';cases r';exact ⟨RcAt.int_none _ _,RcNeAt.int_none _ _⟩
  |bl _=>cases h';cases r';exact ⟨RcAt.int_bool _ _ _,RcNeAt.int_bool _ _ _⟩
  |int _=>cases h';obtain ⟨t,rfl⟩:=r';exact ⟨RcAt.int_int _ _ _ _,RcNeAt.int_int _ _ _ _⟩
  |str _=>cases h';obtain ⟨t,rfl⟩:=r';exact ⟨RcAt.int_str _ _ _ _,RcNeAt.int_str _ _ _ _⟩
 |str _ =>
  cases h;obtain ⟨t0,rfl⟩:=r
  cases y with
  |ref _=>cases hy
  |ty _=>cases hy
  |lsf _=>cases hy
  |exc _ _ _=>cases hy
  |dcf _ _=>cases hy
  |tup ys=>obtain ⟨b,us,its',rfl,rfl,q',rs',vr',it',_⟩:=zaN I h' r';exact ⟨RcAt.str_tuple _ _ it' h0,RcNeAt.str_tuple _ _ it' h0⟩
  |non=>cases h';cases r';exact ⟨RcAt.str_none _ _,RcNeAt.str_none _ _⟩
  |bl _=>cases h';cases r';exact ⟨RcAt.str_bool _ _ _,RcNeAt.str_bool _ _ _⟩
  |int _=>cases h';obtain ⟨t,rfl⟩:=r';exact ⟨RcAt.str_int _ _ _ _,RcNeAt.str_int _ _ _ _⟩
  |str _=>cases h';obtain ⟨t,rfl⟩:=r';exact ⟨RcAt.str_str _ _ _ _,RcNeAt.str_str _ _ _ _⟩
theorem zkq (I:Inv X pins σ H s) {G:Hw} {p:Addr} {ws:List W} (ab:Abs X.K H G) (e:zav G p=some ws):∃ vs its,SqL X.K H p vs/\Reps X.K H ws vs/\Vals vs its/\s.heap.IsList p its.toArray/\PlainL s.heap p its.toArray/\ws.length<=sizeLine:=by
 obtain ⟨vs,q,r⟩:=ab.seq e
 obtain ⟨its,vr,pl,hl⟩:=I.list q
 exact ⟨vs,its,q,r,vr,(let ⟨o,n,h1,h2,_,h3⟩:=pl;⟨o,h1,h2,n,h3⟩),pl,by rw [← r.length];exact hl⟩
theorem zpJ (I:Inv X pins σ H s) {G:Hw} {p q:Addr} {xs ys:List W} {A:Around} (ab:Abs X.K H G) (e:zav G p=some xs) (e':zav G q=some ys) (hx:purs xs=true) (hy:purs ys=true) (hu:A.units+1+min (deps xs) (deps ys)<cLine) :
  RcAt A s (.ref p) (.ref q) (eqWs xs ys)/\RcNeAt A s (.ref p) (.ref q) (!eqWs xs ys):=by
 obtain ⟨vs,its,_,rs,vr,il,_⟩:=zkq I ab e
 obtain ⟨us,its',_,rs',vr',il',_⟩:=zkq I ab e'
 have h0:A.units<cLine:=by omega
 have l1:its.toArray.size=xs.length:=by rw [List.size_toArray,← vr.length,rs.length]
 have l2:its'.toArray.size=ys.length:=by rw [List.size_toArray,← vr'.length,rs'.length]
 have key:∀ (j:Nat) (j1:j<its.toArray.size) (j2:j<its'.toArray.size),EqAt A.in1 s its.toArray[j] its'.toArray[j] (zeg xs ys j):=fun j j1 j2 =>
  zkT I rs vr rs' vr' hx hy (A:=A.in1) hu j (by simpa using j1) (by simpa using j2)
 by_cases hl:xs.length=ys.length
 .rw [← zkQ hl,← l1]
  exact ⟨RcAt.lists il il' (by omega) h0 key,RcNeAt.lists il il' (by omega) h0 key⟩
 .rw [zmJ hl]
  have:(its.toArray.size != its'.toArray.size)=true:=by simp only [bne_iff_ne];omega
  exact ⟨RcAt.lists_lengths il il' this h0,RcNeAt.lists_lengths il il' this h0⟩
end
end L3
set_option Elab.async false
set_option linter.all false
set_option maxRecDepth 100000
set_option maxHeartbeats 8000000
namespace PySem
open Sem (wp)
open Builtin
theorem zfT:fillsNumberSlot (.type "tuple") "mul" = pure false :=
 fillsNumberSlot_seq (id := "tuple.__mul__") (r:=some (.builtin "tuple.__rmul__")) F.slot_tuple_mul.lookup (by decide +kernel) F.slot_tuple_rmul.lookup (by decide +kernel)
theorem zfS:seqRepeat? (.type "tuple")=pure (some (.builtin "tuple.__mul__")):=by
 unfold seqRepeat?
 rw [seqSlot_of (T := "tuple") (name := "__mul__") (id := "tuple.__mul__") F.slot_tuple_mul.lookup (by decide +kernel),seqSlot_of (T := "tuple") (name := "__rmul__") (id := "tuple.__rmul__") F.slot_tuple_rmul.lookup (by decide +kernel)]
 rfl
theorem zjG (a:Int) (t:Tok) (l:Addr) (items:Array Value) (n:Nat) (dd:Option Addr) (sl:Array (Option Value)) :
  Meets (Builtin.«int.__rmul__» ⟨[.int a t,.ref l],[]⟩) (fun _ R s=>s.heap.get? l=some { cls:=.type "tuple", dict:=dd,data:=.seq items n,slots:=sl }/\R (.ok (.ret Value.notImplemented)) s) :=
 .of_wp fun prog w A R s h=>by obtain ⟨hp,g,d,tk,os⟩:=s;obtain ⟨hl,h⟩:=h;wp_walk;exact ⟨_,rfl,h⟩
theorem zph (l:Addr) (items:Array Value) (n:Nat) (u:Tok) (dd:Option Addr) (sl:Array (Option Value)) :
  Meets (Builtin.«tuple.__mul__» ⟨[.ref l,.int 1 u],[]⟩) (fun _ R s=>s.heap.get? l=some { cls:=.type "tuple", dict:=dd,data:=.seq items n,slots:=sl }/\R (.ok (.ret (Value.ref l))) s) :=
 .of_wp fun prog w A R s h=>by obtain ⟨hp,g,d,tk,os⟩:=s;obtain ⟨hl,h⟩:=h;wp_walk;exact ⟨_,rfl,h⟩
theorem znB (l:Addr) (items:Array Value) (n:Nat) (u:Tok) (dd:Option Addr) (sl:Array (Option Value)) (hi:items.isEmpty=false) :
  Meets (Builtin.«tuple.__mul__» ⟨[.ref l,.int 0 u],[]⟩) (fun _ R s=>s.heap.get? l=some { cls:=.type "tuple", dict:=dd,data:=.seq items n,slots:=sl }/\R (.ok (.ret (Value.ref s.heap.objs.size))) { s with heap:=s.heap.push { cls:=.type "tuple", data:=.seq #[] } }) :=
 .of_wp fun prog w A R s h=>by obtain ⟨hp,g,d,tk,os⟩:=s;obtain ⟨hl,h⟩:=h;wp_walk;exact ⟨_,rfl,h⟩
end PySem
namespace L3
open PySem PySem.Spec PyProof.Rows L2
section
variable {X : Cx}
def rRepT (K:Frg):R2:=fun x y H Q=>∃ a k xs,x=.ref a/\y=.int k/\SqT K H a xs/\((k=1/\Q (.ref a) H)\/(k=0/\xs≠[]/\∀ p,H p=none->Q (.ref p) (upd H p (.tup []))))
theorem zn9:OpR X (binaryOp .Mult) (rRepT X.K):=by
 intro pins s σ H x y v u Q I rx ry h
 obtain ⟨a,k,xs,rfl,rfl,ha,h⟩:=h
 cases rx
 obtain ⟨t,rfl⟩:=ry
 obtain ⟨its,r1,p1,_⟩:=I.tuple ha
 obtain ⟨⟨cls,dd,data,sl⟩,ho,hc,n,hd⟩:=id p1
 simp only at hc hd
 subst hc hd
 rcases h with ⟨rfl,q⟩ | ⟨rfl,hx,q⟩
 .exact wpAny_binaryOp_repeat_ref (T := "tuple") (U := "int") (by decide) ⟨_,ho,rfl⟩ (fun s'=>typeIs_int s' 1 t) zfT F.fills_int_mul F.slot_int_rmul zfS F.slot_int_index.lookup
   (call_meets F.slot_int_rmul (typeIs_int s 1 t) F.entry_int_rmul (F.args_int_rmul_2 _ _) (zjG 1 t a its.toArray n dd sl)
    ⟨ho,rfl,⟨_,ho,rfl⟩,call_meets F.slot_tuple_mul ⟨_,ho,rfl⟩ F.entry_tuple_mul (F.args_tuple_mul_2 _ _) (zph a its.toArray n t dd sl) ⟨ho,.ref a,H,I,rfl,q⟩⟩)
 .have he:its.toArray.isEmpty=false:=by
   cases its with
   |nil=>exact absurd (r1.nil_iff.mp rfl) hx
   |cons _ _=>rfl
  refine wpAny_binaryOp_repeat_ref (T := "tuple") (U := "int") (by decide) ⟨_,ho,rfl⟩ (fun s'=>typeIs_int s' 0 t) zfT F.fills_int_mul F.slot_int_rmul zfS F.slot_int_index.lookup
   (call_meets F.slot_int_rmul (typeIs_int s 0 t) F.entry_int_rmul (F.args_int_rmul_2 _ _) (zjG 0 t a its.toArray n dd sl)
    ⟨ho,rfl,⟨_,ho,rfl⟩,call_meets F.slot_tuple_mul ⟨_,ho,rfl⟩ F.entry_tuple_mul (F.args_tuple_mul_2 _ _) (znB a its.toArray n t dd sl he) ⟨ho,?_⟩⟩)
  refine ⟨.ref s.heap.objs.size,_,I.laid (t':=s.toks) (o:=.tup []) (fun b ob q=>Heap.get?_push_of_some _ q) (Nat.le_refl _) ?_,rfl,q _ (I.hok.fresh (Nat.le_refl _))⟩
  exact ⟨Nat.zero_le _,[],.nil,IsTup.new _ _⟩
end
end L3
set_option Elab.async false
set_option linter.all false
set_option maxRecDepth 100000
set_option maxHeartbeats 4000000
namespace L3
open PySem PySem.Spec PyProof.Rows L2 PySem.SeqAt
abbrev R3:=W->W->Hw->Q3->Prop
def lowQ (K:Frg) (H:Hp) (Q:VK):Q3:=fun w G'=>∀ v H',Grow K H H'->Rep K H' w v->Abs K H' G'->Q v H'
def zhc (r:R3):Prop:=∀ x y G (Q Q':Q3),(∀ w G',Q w G'->Q' w G')->r x y G Q->r x y G Q'
def low2 (K:Frg) (r:R3):R2:=fun v u H Q=>∃ x y G,Rep K H x v/\Rep K H y u/\Abs K H G/\r x y G (lowQ K H Q)
def binR:Operator->R3
 | .Add=>fun x y G Q=>match x,y with
  | .int i,.int j=>Q (.int (i+j)) G
  | .str a,.str b=>a.length+b.length<=sizeLine/\Q (.str (a++b)) G
  | .tup a,.tup b=>a.length+b.length<=sizeLine/\Q (.tup (a++b)) G
  | .ref p,.ref q=>(match G p,G q with
   |some (.lst xs),some (.lst ys)=>xs.length+ys.length<=sizeLine/\∀ r,G r=none->Q (.ref r) (put G r (.lst (xs++ys)))
   |_,_=>False)
  |_,_=>False
 | .Sub=>fun x y G Q=>match x,y with
  | .int i,.int j=>Q (.int (i - j)) G
  |_,_=>False
 | .Mult=>fun x y G Q=>match x,y with
  | .int i,.int j=>CMul i j/\Q (.int (i * j)) G
  | .tup xs,.int k=>(k=1/\Q (.tup xs) G)\/(k=0/\xs≠[]/\Q (.tup []) G)
  | .ref p,.int k=>(match G p with
   |some (.lst xs)=>(-(2 ^ 63)<=k/\k<2 ^ 63/\xs.length * k.toNat<=sizeLine)/\∀ r,G r=none->Q (.ref r) (put G r (.lst (List.replicate k.toNat xs).flatten))
   |_=>False)
  |_,_=>False
 | .Mod=>fun x y G Q=>match x,y with
  | .int i,.int j=>0<j/\Q (.int (i % j)) G
  |_,_=>False
 | .FloorDiv=>fun x y G Q=>match x,y with
  | .int i,.int j=>CDiv i j/\Q (.int (i / j)) G
  |_,_=>False
 | .Pow=>fun x y G Q=>match x,y with
  | .int i,.int j=>CPow i j/\Q (.int (i ^ j.toNat)) G
  |_,_=>False
 |_=>fun _ _ _ _=>False
theorem zg7:∀ op,zhc (binR op):=by
 intro op x y G Q Q' k h
 cases op with
 |Add =>
  cases x with
  |int i=>cases y with
   |int j=>exact k _ _ h
   |_=>exact h.elim
  |str i=>cases y with
   |str j=>exact ⟨h.1,k _ _ h.2⟩
   |_=>exact h.elim
  |tup a=>cases y with
   |tup b=>exact ⟨h.1,k _ _ h.2⟩
   |_=>exact h.elim
  |ref p=>cases y with
   |ref q =>
    simp only [binR] at h ⊢
    split at h
    .exact ⟨h.1,fun r hr=>k _ _ (h.2 r hr)⟩
    .exact h.elim
   |_=>exact h.elim
  |_=>exact h.elim
 |Mult =>
  cases x with
  |int i=>cases y with
   |int j=>exact ⟨h.1,k _ _ h.2⟩
   |_=>exact h.elim
  |tup a=>cases y with
   |int j=>exact h.imp (fun z=>⟨z.1,k _ _ z.2⟩) fun z=>⟨z.1,z.2.1,k _ _ z.2.2⟩
   |_=>exact h.elim
  |ref p=>cases y with
   |int q =>
    simp only [binR] at h ⊢
    split at h
    .exact ⟨h.1,fun r hr=>k _ _ (h.2 r hr)⟩
    .exact h.elim
   |_=>exact h.elim
  |_=>exact h.elim
 |Sub =>
  cases x with
  |int i=>cases y with
   |int j=>exact k _ _ h
   |_=>exact h.elim
  |_=>exact h.elim
 |Mod =>
  cases x with
  |int i=>cases y with
   |int j=>exact ⟨h.1,k _ _ h.2⟩
   |_=>exact h.elim
  |_=>exact h.elim
 |FloorDiv =>
  cases x with
  |int i=>cases y with
   |int j=>exact ⟨h.1,k _ _ h.2⟩
   |_=>exact h.elim
  |_=>exact h.elim
 |Pow =>
  cases x with
  |int i=>cases y with
   |int j=>exact ⟨h.1,k _ _ h.2⟩
   |_=>exact h.elim
  |_=>exact h.elim
 |_=>exact h.elim
section
variable {X : Cx}
theorem Reps.nil_iff {K:Frg} {H:Hp} {ws:List W} {vs:List V} (h:Reps K H ws vs):vs=[]↔ws=[]:=by
 have:=h.length
 constructor
 .intro e;subst e;exact List.eq_nil_of_length_eq_zero this.symm
 .intro e;subst e;exact List.eq_nil_of_length_eq_zero this
theorem zo2 {pins:List (Addr×Obj)} {s:Shared} {σ:L2.St} {H:Hp} {a b:Addr} {Q:Value->Shared->Prop} {E:Value->Shared->Prop} {ws:List Value} (ht:IsTup s.heap a #[]) (hb:IsTup s.heap b ws.toArray) (h:Q (.ref b) s) :
  wpAny (model X.prog X.w) X.A (binaryOp .Add (.ref a) (.ref b)) Q E s:=by
 obtain ⟨⟨cls,dd,data,sl⟩,ho,hc,n,hd⟩:=id ht
 obtain ⟨⟨cls2,dd2,data2,sl2⟩,ho2,hc2,n2,hd2⟩:=id hb
 simp only at hc hd hc2 hd2
 subst hc hd hc2 hd2
 exact concat_meets ⟨_,ho,rfl⟩ ⟨_,ho2,rfl⟩ noFill_tuple_add seq_tuple_add PySem.F.slot_tuple_add PySem.F.entry_tuple_add (PySem.F.args_tuple_add_2 _ _)
  (tuple_addW0 a b #[] ws.toArray n n2 dd dd2 sl sl2 rfl) ⟨ho,ho2,h⟩
theorem zb6 {K:Frg} {H:Hp} {G:Hw} {Q:VK} {ws:List W} {vs:List V} (ab:Abs K H G) (r:Reps K H ws vs) (h:∀ p,G p=none->lowQ K H Q (.ref p) (put G p (.lst ws))):∀ p,H p=none->Q (.ref p) (upd H p (.lst vs)):=fun p hp =>
 h p (ab.free hp) _ _ (zaU hp) rfl (ab.new hp ⟨vs,rfl,r.mono (zaU hp)⟩)
theorem zdJ {K:Frg} {H:Hp} {G:Hw} {Q:VK} {ws:List W} {vs:List V} (ab:Abs K H G) (r:Reps K H ws vs) (h:lowQ K H Q (.tup ws) G):∀ p,H p=none->Q (.ref p) (upd H p (.tup vs)):=fun p hp =>
 h _ _ (zaU hp) ⟨p,vs,rfl,.of zbt,r.mono (zaU hp)⟩ (ab.tup hp)
theorem Reps.flat {K:Frg} {H:Hp} {ws:List W} {vs:List V} (h:Reps K H ws vs):∀ k:Nat,Reps K H (List.replicate k ws).flatten (List.replicate k vs).flatten
 | 0=>rfl
 |k+1=>by rw [List.replicate_succ,List.replicate_succ,List.flatten_cons,List.flatten_cons];exact h.append (Reps.flat h k)
theorem zqZ (op:Operator):OpR X (binaryOp op) (low2 X.K (binR op)):=by
 intro pins s σ H v u a b Q I rv ru h
 obtain ⟨x,y,G,rx,ry,ab,h⟩:=h
 cases op with
 |Add =>
  cases x with
  |int i =>
   cases y with
   |int j=>cases rx;cases ry;exact zqe pins s σ H _ _ _ _ Q I rv ru ⟨i,j,rfl,rfl,h _ _ .refl rfl ab⟩
   |_=>exact h.elim
  |str i =>
   cases y with
   |str j=>cases rx;cases ry;exact zi8 pins s σ H _ _ _ _ Q I rv ru ⟨i,j,rfl,rfl,h.1,h.2 _ _ .refl rfl ab⟩
   |_=>exact h.elim
  |tup xs =>
   cases y with
   |tup ys =>
    obtain ⟨a1,vs,its,rfl,rfl,q,rs,vr,it,_⟩:=zaN I rx rv
    obtain ⟨b1,us,its',rfl,rfl,q',rs',vr',it',_⟩:=zaN I ry ru
    by_cases e:xs=[]
    .subst e
     have e1:vs=[]:=(rs.nil_iff).mpr rfl
     subst e1
     cases vr
     exact zo2 (pins:=pins) (σ:=σ) (H:=H) it it' ⟨.ref b1,H,I,rfl,h.2 _ _ .refl ⟨b1,us,rfl,q',rs'⟩ ab⟩
    .refine zob pins s σ H (.ref a1) (.ref b1) _ _ Q I rfl rfl ⟨a1,b1,vs,us,rfl,rfl,q,q',fun z=>e (rs.nil_iff.mp z),by rw [rs.length,rs'.length];exact h.1,fun z=>?_,fun _=>?_⟩
     .have:ys=[]:=rs'.nil_iff.mp z
      subst this
      exact h.2 _ _ .refl ⟨a1,vs,rfl,q,by rw [List.append_nil];exact rs⟩ ab
     .exact zdJ ab (rs.append rs') h.2
   |_=>exact h.elim
  |ref p =>
   cases y with
   |ref q =>
    cases rx;cases ry
    simp only [binR] at h
    split at h
    .rename_i xs ys e1 e2
     obtain ⟨vs,q1,r1⟩:=ab.lst e1
     obtain ⟨us,q2,r2⟩:=ab.lst e2
     exact zqd pins s σ H _ _ _ _ Q I rv ru ⟨p,q,vs,us,rfl,rfl,q1,q2,by rw [r1.length,r2.length];exact h.1,zb6 ab (r1.append r2) h.2⟩
    .exact h.elim
   |_=>exact h.elim
  |_=>exact h.elim
 |Sub =>
  cases x with
  |int i =>
   cases y with
   |int j=>cases rx;cases ry;exact zp8 pins s σ H _ _ _ _ Q I rv ru ⟨i,j,rfl,rfl,h _ _ .refl rfl ab⟩
   |_=>exact h.elim
  |_=>exact h.elim
 |Mult =>
  cases x with
  |int i =>
   cases y with
   |int j=>cases rx;cases ry;exact zqb pins s σ H _ _ _ _ Q I rv ru ⟨i,j,rfl,rfl,h.1,h.2 _ _ .refl rfl ab⟩
   |_=>exact h.elim
  |tup xs =>
   cases y with
   |int k =>
    obtain ⟨a1,vs,its,rfl,rfl,q,rs,vr,it,_⟩:=zaN I rx rv
    cases ry
    refine zn9 pins s σ H (.ref a1) (.int k) _ _ Q I rfl ru ⟨a1,k,vs,rfl,rfl,q,?_⟩
    rcases h with ⟨e,h⟩ | ⟨e,hx,h⟩
    .exact .inl ⟨e,h _ _ .refl ⟨a1,vs,rfl,q,rs⟩ ab⟩
    .exact .inr ⟨e,fun z=>hx (rs.nil_iff.mp z),zdJ ab (ws:=[]) (vs:=[]) rfl h⟩
   |_=>exact h.elim
  |ref p =>
   cases y with
   |int k =>
    cases rx;cases ry
    simp only [binR] at h
    split at h
    .rename_i xs e1
     obtain ⟨vs,q1,r1⟩:=ab.lst e1
     exact zp9 pins s σ H _ _ _ _ Q I rv ru ⟨p,k,vs,rfl,rfl,q1,h.1.1,h.1.2.1,by rw [r1.length];exact h.1.2.2,zb6 ab (r1.flat _) h.2⟩
    .exact h.elim
   |_=>exact h.elim
  |_=>exact h.elim
 |Mod =>
  cases x with
  |int i =>
   cases y with
   |int j=>cases rx;cases ry;exact zqc pins s σ H _ _ _ _ Q I rv ru ⟨i,j,rfl,rfl,h.1,h.2 _ _ .refl rfl ab⟩
   |_=>exact h.elim
  |_=>exact h.elim
 |FloorDiv =>
  cases x with
  |int i =>
   cases y with
   |int j=>cases rx;cases ry;exact zoa pins s σ H _ _ _ _ Q I rv ru ⟨i,j,rfl,rfl,h.1,h.2 _ _ .refl rfl ab⟩
   |_=>exact h.elim
  |_=>exact h.elim
 |Pow =>
  cases x with
  |int i =>
   cases y with
   |int j=>cases rx;cases ry;exact zqa pins s σ H _ _ _ _ Q I rv ru ⟨i,j,rfl,rfl,h.1,h.2 _ _ .refl rfl ab⟩
   |_=>exact h.elim
  |_=>exact h.elim
 |_=>exact h.elim
end
end L3
set_option Elab.async false
set_option linter.all false
set_option maxRecDepth 100000
set_option maxHeartbeats 4000000
namespace L3
open PySem PySem.Spec PyProof.Rows L2 PySem.SeqAt
def eqG (G:Hw):W->W->Option Bool
 | .ref p,.ref q=>match zav G p,zav G q with
  |some a,some b=>if (purs a&&purs b&&decide (min (deps a) (deps b)<=150))=true then some (eqWs a b) else none
  |_,_=>none
 |x,y=>if (pur x&&pur y&&decide (min (dep x) (dep y)<=150))=true then some (eqW x y) else none
def inR (neg:Bool) (x:W) (ws:List W) (G:Hw) (Q:Q3):Prop:=(pur x=true/\purs ws=true/\min (deps ws) (dep x)<=150)/\Q (.bl (if neg then !ws.any fun w=>eqW w x else ws.any fun w=>eqW w x)) G
def inStr (neg:Bool) (i j:Str):Bool:=if neg then !(!(Builtin.Str.occurrences j i 0 j.length 1).isEmpty) else !(Builtin.Str.occurrences j i 0 j.length 1).isEmpty
def zmq:W->Option Key
 | .int i=>some (.inl i)
 | .str x=>some (.inr x)
 |_=>none
def hasK {α:Type} (kvs:List (Key×α)) (k:Key):Bool:=kvs.any fun p=>decide (p.1=k)
def memR (neg:Bool):R3:=fun x y G Q=>match y with
 | .tup ws=>inR neg x ws G Q
 | .ref p=>(match G p with
  |some (.lst ws)=>inR neg x ws G Q
  |some (.fix ws)=>inR neg x ws G Q
  |_=>False)
 | .str j=>(match x with
  | .str i=>Q (.bl (inStr neg i j)) G
  |_=>False)
 |_=>False
def isR (neg:Bool):R3:=fun x y G Q=>match y with
 | .non=>Q (.bl (if neg then (match x with | .non=>false | _=>true) else (match x with | .non=>true | _=>false))) G
 | .bl b=>Q (.bl (if neg then (match x with | .bl c=>!(c==b) | _=>true) else (match x with | .bl c=>c==b | _=>false))) G
 |_=>False
def ordR (p:Int->Int->Bool):R3:=fun x y G Q=>match x,y with
 | .int i,.int j=>Q (.bl (p i j)) G
 |_,_=>False
def leS (x y:Str):Bool:=!decide (y.cps.toList<x.cps.toList)
def leR:R3:=fun x y G Q=>match x,y with
 | .int i,.int j=>Q (.bl (decide (i<=j))) G
 | .str i,.str j=>Q (.bl (leS i j)) G
 |_,_=>False
def cmpR:CmpOp->R3
 | .Eq=>fun x y G Q=>match eqG G x y with | some b=>Q (.bl b) G | none=>False
 | .NotEq=>fun x y G Q=>match eqG G x y with | some b=>Q (.bl (!b)) G | none=>False
 | .Is=>isR false
 | .IsNot=>isR true
 | .In=>memR false
 | .NotIn=>memR true
 | .Lt=>ordR fun i j=>decide (i<j)
 | .LtE=>leR
 | .Gt=>ordR fun i j=>decide (j<i)
 | .GtE=>ordR fun i j=>decide (j<=i)
theorem zdH (p:Int->Int->Bool):zhc (ordR p):=by
 intro x y G Q Q' k h
 cases x <;> cases y <;> simp only [ordR] at h ⊢ <;> first | exact h.elim | exact k _ _ h
theorem zmk:zhc leR:=by
 intro x y G Q Q' k h
 cases x <;> cases y <;> simp only [leR] at h ⊢ <;> first | exact h.elim | exact k _ _ h
theorem zgG (neg:Bool):zhc (memR neg):=by
 intro x y G Q Q' k h
 unfold memR at h ⊢
 cases y with
 |tup ws=>exact ⟨h.1,k _ _ h.2⟩
 |ref p =>
  simp only at h ⊢
  split at h
  .exact ⟨h.1,k _ _ h.2⟩
  .exact ⟨h.1,k _ _ h.2⟩
  .exact h.elim
 |str j =>
  cases x with
  |str i=>exact k _ _ h
  |_=>exact h.elim
 |_=>exact h.elim
theorem ziF (neg:Bool):zhc (isR neg):=by
 intro x y G Q Q' k h
 unfold isR at h ⊢
 cases y with
 |non=>exact k _ _ h
 |bl b=>exact k _ _ h
 |_=>exact h.elim
theorem zaC:∀ op,zhc (cmpR op):=by
 intro op x y G Q Q' k h
 cases op with
 |Eq =>
  simp only [cmpR] at h ⊢
  split at h
  .exact k _ _ h
  .exact h.elim
 |NotEq =>
  simp only [cmpR] at h ⊢
  split at h
  .exact k _ _ h
  .exact h.elim
 |Is=>exact ziF false x y G Q Q' k h
 |IsNot=>exact ziF true x y G Q Q' k h
 |In=>exact zgG false x y G Q Q' k h
 |NotIn=>exact zgG true x y G Q Q' k h
 |Lt=>exact zdH _ x y G Q Q' k h
 |LtE=>exact zmk x y G Q Q' k h
 |Gt=>exact zdH _ x y G Q Q' k h
 |GtE=>exact zdH _ x y G Q Q' k h
section
variable {X : Cx} {pins : List (Addr × Obj)} {σ : L2.St} {H : Hp} {s : Shared}
open Classical in
def eqI (K:Frg) (H:Hp) (x:W) (y:Value):Bool:=if ∃ w v,Rep K H w v/\RelV v y/\pur w=true/\eqW w x=true then true else false
theorem zkR (I:Inv X pins σ H s) {x w:W} {v:V} {y:Value} (r:Rep X.K H w v) (q:RelV v y) (p:pur w=true):eqI X.K H x y=eqW w x:=by
 unfold eqI
 cases e:eqW w x with
 |true=>rw [if_pos ⟨w,v,r,q,p,e⟩]
 |false =>
  rw [if_neg]
  rintro ⟨w',v',r',q',p',e'⟩
  have:=RelV.inj q q'
  subst this
  rw [zj7 I w' w v r' r p' p,e] at e'
  cases e'
theorem zkS (I:Inv X pins σ H s) {x:W}:∀ {ws:List W} {vs:List V} {us:List Value},Reps X.K H ws vs->Vals vs us->purs ws=true->us.any (eqI X.K H x)=ws.any fun w=>eqW w x:=by
 intro ws
 induction ws with
 |nil=>intro vs us h r _;rw [show _=[] from h] at r;cases r;rfl
 |cons w ws ih =>
  intro vs us h r p
  obtain ⟨v,t,e,h,hs⟩:=h
  subst e
  cases r with
  |cons r rs =>
   have p':=zax.mp p
   rw [List.any_cons,List.any_cons,zkR I h r p'.1,ih hs rs p'.2]
theorem zc2 {w:W}:∀ {ws:List W},w∈ws->dep w<=deps ws:=by
 intro ws
 induction ws with
 |nil=>intro h;cases h
 |cons x xs ih =>
  intro h
  simp only [deps]
  rcases List.mem_cons.mp h with e | h
  .rw [e];exact Nat.le_max_left _ _
  .exact Nat.le_trans (ih h) (Nat.le_max_right _ _)
theorem zno (I:Inv X pins σ H s) {x:W} {vx:V} {ux:Value} {A:Around} (rx:Rep X.K H x vx) (qx:RelV vx ux) (px:pur x=true):∀ {ws:List W} {vs:List V} {us:List Value},Reps X.K H ws vs->Vals vs us->purs ws=true->A.units+min (deps ws) (dep x)<cLine ->
  ∀ y∈us,EqAt A s y ux (eqI X.K H x y):=by
 intro ws
 induction ws with
 |nil=>intro vs us h r _ _ y hy;rw [show _=[] from h] at r;cases r;cases hy
 |cons w ws ih =>
  intro vs us h r p hu y hy
  obtain ⟨v,t,e,h,hs⟩:=h
  subst e
  simp only [deps] at hu
  cases r with
  |cons r rs =>
   have p':=zax.mp p
   rcases List.mem_cons.mp hy with e | hy
   .subst e
    rw [zkR I h r p'.1]
    exact zkU I w x v vx _ ux A h r rx qx p'.1 px (by omega)
   .exact ih hs rs p'.2 (by omega) y hy
theorem zhJ {M:Model} {A:Around} {E:Value->Shared->Prop} {Q:Value->Shared->Prop} {v:Value} {b:Bool} (hb:∀ p,v≠.builtin p) (h:Q (.bool (v==.bool b)) s):wpAny M A (compareOp .Is v (.bool b)) Q E s:=by
 cases v <;> first | exact wpAny_pure h | exact absurd rfl (hb _)
theorem zer {M:Model} {A:Around} {E:Value->Shared->Prop} {Q:Value->Shared->Prop} {v:Value} {b:Bool} (hb:∀ p,v≠.builtin p) (h:Q (.bool (!(v==.bool b))) s):wpAny M A (compareOp .IsNot v (.bool b)) Q E s:=by
 cases v <;> first | exact wpAny_pure h | exact absurd rfl (hb _)
theorem zm7 {v:V} {u:Value} (r:RelV v u):∀ p,u≠.builtin p:=by
 cases v <;> first
  | (obtain ⟨t,e⟩:=r;subst e;intro p z;cases z)
  | (intro p z;subst z;cases r)
theorem zqL (neg:Bool):OpR X (compareOp (if neg then .IsNot else .Is)) (low2 X.K (isR neg)):=by
 intro pins s σ H v u a b Q I rv ru h
 obtain ⟨x,y,G,rx,ry,ab,h⟩:=h
 have fin:∀ k k':Bool,lowQ X.K H Q (.bl k) G->k=k'->EP X pins σ Q (.bool k') s:=fun k k' q e=>⟨.bl k',H,I,rfl,by rw [← e];exact q _ _ .refl rfl ab⟩
 cases y with
 |non =>
  cases ry;cases ru
  cases neg with
  |false =>
   refine is_none_gen (fin _ _ h ?_)
   cases x <;> first
    | (cases rx;cases rv;rfl)
    | (cases rx;obtain ⟨t,rfl⟩:=rv;rfl)
    | (obtain ⟨_,_,rfl,_⟩:=rx;cases rv;rfl)
  |true =>
   refine isnot_none_gen (fin _ _ h ?_)
   cases x <;> first
    | (cases rx;cases rv;rfl)
    | (cases rx;obtain ⟨t,rfl⟩:=rv;rfl)
    | (obtain ⟨_,_,rfl,_⟩:=rx;cases rv;rfl)
 |bl c =>
  cases ry;cases ru
  cases neg with
  |false =>
   refine zhJ (zm7 rv) (fin _ _ h ?_)
   cases x <;> first
    | (cases rx;cases rv;rfl)
    | (cases rx;cases rv;rename_i d;cases c <;> cases d <;> rfl)
    | (cases rx;obtain ⟨t,rfl⟩:=rv;rfl)
    | (obtain ⟨_,_,rfl,_⟩:=rx;cases rv;rfl)
  |true =>
   refine zer (zm7 rv) (fin _ _ h ?_)
   cases x <;> first
    | (cases rx;cases rv;rfl)
    | (cases rx;cases rv;rename_i d;cases c <;> cases d <;> rfl)
    | (cases rx;obtain ⟨t,rfl⟩:=rv;rfl)
    | (obtain ⟨_,_,rfl,_⟩:=rx;cases rv;rfl)
 |_=>exact h.elim
theorem zfN (us:List Value) (e:Value->Bool):us.toArray.any e=us.any e:=by simp
theorem zgF (neg:Bool) (hu:X.A.units+200<cLine):OpR X (compareOp (if neg then .NotIn else .In)) (low2 X.K (memR neg)):=by
 intro pins s σ H v u a b Q I rv ru h
 obtain ⟨x,y,G,rx,ry,ab,h⟩:=h
 have fin:∀ k:Bool,lowQ X.K H Q (.bl k) G->EP X pins σ Q (.bool k) s:=fun k q=>⟨.bl k,H,I,rfl,q _ _ .refl rfl ab⟩
 have sq:∀ (p:Addr) (ws:List W) (vs:List V) (its:List Value),Reps X.K H ws vs->Vals vs its->(s.heap.IsTuple p its.toArray\/s.heap.IsList p its.toArray)->inR neg x ws G (lowQ X.K H Q) ->
   wpAny (model X.prog X.w) X.A (compareOp (if neg then .NotIn else .In) a (.ref p)) (EP X pins σ Q) X.xe s:=fun p ws vs its rs vr ht hin=>by
  obtain ⟨⟨p1,p2,p3⟩,q⟩:=hin
  have he:∀ y,y∈its.toArray->EqAt X.A.in1 s y a (eqI X.K H x y):=fun y hy=>zno I rx rv p1 rs vr p2 (by show X.A.units+1+_<_;omega) y (by simpa using hy)
  have ea:=zkS I (x:=x) rs vr p2
  cases neg with
  |false =>
   rcases ht with ht | ht
   .exact in_tupleAt _ ht he (by rw [zfN,ea];exact fin _ q)
   .exact in_listAt _ ht he (by rw [zfN,ea];exact fin _ q)
  |true =>
   rcases ht with ht | ht
   .exact notIn_tupleAt _ ht he (by rw [zfN,ea];exact fin _ q)
   .exact notIn_listAt _ ht he (by rw [zfN,ea];exact fin _ q)
 cases y with
 |tup ws =>
  obtain ⟨b1,us,its',rfl,rfl,q',rs',vr',it',_⟩:=zaN I ry ru
  exact sq b1 ws us its' rs' vr' (.inl it') h
 |ref p =>
  cases ry;cases ru
  have lk:∀ ws,zav G p=some ws->inR neg x ws G (lowQ X.K H Q)->wpAny (model X.prog X.w) X.A (compareOp (if neg then .NotIn else .In) a (.ref p)) (EP X pins σ Q) X.xe s:=fun ws e q=>by
   obtain ⟨vs,its,_,rs,vr,il,_⟩:=zkq I ab e
   exact sq p ws vs its rs vr (.inr il) q
  simp only [memR] at h
  split at h
  .rename_i ws e;exact lk ws (by unfold zav;rw [e]) h
  .rename_i ws e;exact lk ws (by unfold zav;rw [e]) h
  .exact h.elim
 |str j =>
  cases x with
  |str i =>
   cases rx;cases ry
   cases neg with
   |false=>exact zkh pins s σ H _ _ _ _ Q I rv ru ⟨i,j,rfl,rfl,h _ _ .refl rfl ab⟩
   |true=>exact zgq pins s σ H _ _ _ _ Q I rv ru ⟨i,j,rfl,rfl,h _ _ .refl rfl ab⟩
  |_=>exact h.elim
 |_=>exact h.elim
theorem zkg {op:CmpOp} {p:Int->Int->Bool} (ho:OpR X (compareOp op) (rI0 fun i j=>.bl (p i j))):OpR X (compareOp op) (low2 X.K (ordR p)):=by
 intro pins s σ H v u a b Q I rv ru h
 obtain ⟨x,y,G,rx,ry,ab,h⟩:=h
 cases x with
 |int i =>
  cases y with
  |int j=>cases rx;cases ry;exact ho pins s σ H _ _ _ _ Q I rv ru ⟨i,j,rfl,rfl,h _ _ .refl rfl ab⟩
  |_=>exact h.elim
 |_=>exact h.elim
theorem le_ok:OpR X (compareOp .LtE) (low2 X.K leR):=by
 intro pins s σ H v u a b Q I rv ru h
 obtain ⟨x,y,G,rx,ry,ab,h⟩:=h
 cases x with
 |int i =>
  cases y with
  |int j=>cases rx;cases ry;exact op_le pins s σ H _ _ _ _ Q I rv ru ⟨i,j,rfl,rfl,h _ _ .refl rfl ab⟩
  |_=>exact h.elim
 |str i =>
  cases y with
  |str j =>
   cases rx;cases ry
   obtain ⟨t,rfl⟩:=rv
   obtain ⟨t',rfl⟩:=ru
   exact PySem.P.le_str ⟨.bl (leS i j),H,I,rfl,h _ _ .refl rfl ab⟩
  |_=>exact h.elim
 |_=>exact h.elim
theorem znq (I:Inv X pins σ H s) (hu:X.A.units+200<cLine) {G:Hw} {x y:W} {v v':V} {u u':Value} {b:Bool} (ab:Abs X.K H G) (h:Rep X.K H x v) (r:RelV v u) (h':Rep X.K H y v') (r':RelV v' u') (e:eqG G x y=some b) :
  RcAt X.A s u u' b/\RcNeAt X.A s u u' (!b):=by
 have gen:∀ (hh:(if (pur x&&pur y&&decide (min (dep x) (dep y)<=150))=true then some (eqW x y) else none)=some b),RcAt X.A s u u' b/\RcNeAt X.A s u u' (!b):=fun hh=>by
  split at hh
  .rename_i c
   simp only [Bool.and_eq_true,decide_eq_true_eq] at c
   cases hh
   exact zpI I x y v v' u u' X.A h r h' r' c.1.1 c.1.2 (by omega)
  .cases hh
 cases x with
 |ref p =>
  cases y with
  |ref q =>
   simp only [eqG] at e
   split at e
   .rename_i a1 b1 e1 e2
    split at e
    .rename_i c
     simp only [Bool.and_eq_true,decide_eq_true_eq] at c
     cases e
     cases h;cases h';cases r;cases r'
     exact zpJ I ab e1 e2 c.1.1 c.1.2 (by omega)
    .cases e
   .cases e
  |_=>exact gen e
 |_=>cases y <;> exact gen e
theorem zbZ (hu:X.A.units+200<cLine) (op:CmpOp):OpR X (compareOp op) (low2 X.K (cmpR op)):=by
 cases op with
 |Eq =>
  intro pins s σ H v u a b Q I rv ru h
  obtain ⟨x,y,G,rx,ry,ab,h⟩:=h
  simp only [cmpR] at h
  split at h
  .rename_i k e
   exact (znq I hu ab rx rv ry ru e).1 _ _ _ _ ⟨.bl k,H,I,rfl,h _ _ .refl rfl ab⟩
  .exact h.elim
 |NotEq =>
  intro pins s σ H v u a b Q I rv ru h
  obtain ⟨x,y,G,rx,ry,ab,h⟩:=h
  simp only [cmpR] at h
  split at h
  .rename_i k e
   exact (znq I hu ab rx rv ry ru e).2 _ _ _ _ ⟨.bl (!k),H,I,rfl,h _ _ .refl rfl ab⟩
  .exact h.elim
 |Is=>exact zqL false
 |IsNot=>exact zqL true
 |In=>exact zgF false hu
 |NotIn=>exact zgF true hu
 |Lt=>exact zkg op_lt
 |LtE=>exact le_ok
 |Gt=>exact zkg op_gt
 |GtE=>exact zkg op_ge
end
end L3
set_option Elab.async false
set_option linter.all false
set_option maxRecDepth 100000
set_option maxHeartbeats 8000000
namespace L3
open PySem PySem.Spec PyProof.Rows L2 HT
section
variable {prog : Program} {w : World} {A : Around} {E : Value → Shared → Prop} {s : Shared}
theorem zkN {t sl:Addr} {items:Array Value} {vl vu:Value} {lo hi:Option Int} {Q:Value->Shared->Prop} (ht:IsTup s.heap t items) (hs:s.heap.IsSliceOf sl vl vu .none) (pl:IsPart vl lo) (pu:IsPart vu hi)
  (hw:sIx items.size 0 lo=0/\sIx items.size items.size hi=items.size) (h:Q (.ref t) s):wpAny (model prog w) A (getItem (.ref t) (.ref sl)) Q E s:=by
 obtain ⟨os,hos,hcs,hds⟩:=id hs
 have hTs:s.TypeIs (.ref sl) "slice" := ⟨os,hos,hcs⟩
 unfold getItem
 try with_reducible refine wpAny_holding ?_
 first | refine wpAny_bind (wpAny_pure ?_) | skip
 refine wpAny_bind (wpAny_sequenceKey ht.typeIs (by decide) ?_)
 refine wpAny_bind (wpAny_callSpecial?_slot (name:=Str.ofString "__getitem__") ht.typeIs PyProof.Rows.slot_tuple_getitem
  (wpAny_call_entry PyProof.Rows.slot_tuple_getitem ht.typeIs entry_tuple_getitem ?_ (args_tuple_getitem _ _)))
 show wpAny _ _ (Builtin.Tuple.tupleItemsOf (.ref t) >>= _) _ _ s
 refine wpAny_bind (tupleItemsOf_ ht ?_)
 refine wpAny_bind (wpAny_typeOf hTs ?_)
 rw [if_pos (by decide)]
 refine wpAny_bind (zbY hs pl pu ?_)
 have yes:(((sIx items.size 0 lo:Nat):Int)==0&&(1:Int)==1&&(sIx items.size items.size hi - sIx items.size 0 lo)==items.size)=true:=by
  rw [hw.1,hw.2];simp
 show wpAny _ _ (if (((sIx items.size 0 lo:Nat):Int)==0&&(1:Int)==1&&(sIx items.size items.size hi - sIx items.size 0 lo)==items.size)=true then _ else _) _ _ s
 rw [if_pos yes]
 refine wpAny_bind (m:=Builtin.Tuple.tupleIsExact (.ref t)) ?_
 unfold Builtin.Tuple.tupleIsExact
 refine wpAny_bind (wpAny_typeOf ht.typeIs (wpAny_pure ?_))
 rw [if_pos (by decide)]
 exact wpAny_bind (wpAny_rule (wpAny_pure ⟨_,rfl,wpAny_pure h⟩))
end
section
variable {X : Cx}
def rSlW (K:Frg):V->Option Int->Option Int->Hp->VK->Prop:=fun x lo hi H Q=>∃ a xs,x=.ref a/\SqT K H a xs/\(HT.sIx xs.length 0 lo=0/\HT.sIx xs.length xs.length hi=xs.length)/\Q (.ref a) H
theorem zlz:SlR X (rSlW X.K):=by
 intro pins s σ H x v vl vu lo hi sl Q I rx hs pl pu h
 obtain ⟨a,xs,rfl,hx,hw,q⟩:=h
 cases rx
 obtain ⟨its,r,ht,hz⟩:=I.tuple hx
 have hlen:its.toArray.size=xs.length:=by rw [List.size_toArray];exact r.length.symm
 exact ⟨"tuple", _,PyProof.Rows.slot_tuple_getitem.lookup,ht.typeIs,zkN ht hs pl pu (by rw [hlen];exact hw) ⟨.ref a,H,I,rfl,q⟩⟩
end
end L3
set_option Elab.async false
set_option linter.all false
set_option maxRecDepth 100000
set_option maxHeartbeats 4000000
namespace L3
open PySem PySem.Spec PyProof.Rows L2 PySem.SeqAt
def truW (G:Hw):W->Option Bool
 | .non=>some false
 | .bl b=>some b
 | .int i=>some (i != 0)
 | .str y=>if y.length<=sizeLine then some ((y.length:Int) != 0) else none
 | .tup ws=>some (!ws.isEmpty)
 | .ref p=>match G p with
  |some (.lst ws)=>some (!ws.isEmpty)
  |some (.fix ws)=>some (!ws.isEmpty)
  |some (.dic kvs)=>some (!kvs.isEmpty)
  |_=>none
 |_=>none
theorem Reps.empty {K:Frg} {H:Hp} {ws:List W} {vs:List V} (h:Reps K H ws vs):vs.isEmpty=ws.isEmpty:=by
 have:=h.length
 cases ws <;> cases vs <;> simp_all
theorem zaL.length {K:Frg} {H:Hp} {κ:Type}:∀ {l:List (κ×W)} {l':List (κ×V)},zaL K H l l'->l'.length=l.length
 | [],_,h=>by rw [show _=[] from h];rfl
 |_::_,_,⟨v,t,e,_,r⟩=>by rw [e,List.length_cons,List.length_cons,zaL.length r]
theorem znA {K:Frg} {H:Hp} {G:Hw} {w:W} {v:V} {k:Bool} (r:Rep K H w v) (ab:Abs K H G) (h:truW G w=some k):TruV K v H k:=by
 cases w with
 |non=>cases r;cases h;rfl
 |bl b=>cases r;cases h;rfl
 |int i=>cases r;cases h;rfl
 |str y =>
  cases r
  simp only [truW] at h
  split at h
  .rename_i c;cases h;exact ⟨c,rfl⟩
  .cases h
 |ty n=>cases h
 |lsf n=>cases h
 |exc _ _ _=>cases h
 |dcf _ _=>cases h
 |tup ws =>
  obtain ⟨a,vs,rfl,q,rs⟩:=r
  cases h
  exact .inr (.inl ⟨vs,q,by rw [rs.empty]⟩)
 |ref p =>
  cases r
  have lk:∀ ws,zav G p=some ws->k=!ws.isEmpty->TruV K (.ref p) H k:=fun ws e q=>by
   obtain ⟨vs,sq,rs⟩:=ab.seq e
   exact .inl ⟨vs,sq,by rw [rs.empty];exact q⟩
  simp only [truW] at h
  split at h
  .rename_i ws e;cases h;exact lk ws (by unfold zav;rw [e]) rfl
  .rename_i ws e;cases h;exact lk ws (by unfold zav;rw [e]) rfl
  .rename_i kvs e
   cases h
   obtain ⟨l,e',rk⟩:=ab.dic e
   refine .inr (.inr ⟨l,e',?_⟩)
   have:=rk.length
   cases kvs <;> cases l <;> simp_all
  .cases h
def dget {α:Type} (kvs:List (Key×α)) (k:Key):Option α:=(kvs.find? fun kv=>decide (kv.1=k)).map (·.2)
def dput {α:Type} (kvs:List (Key×α)) (k:Key) (v:α):List (Key×α) :=
 if (kvs.any fun kv=>decide (kv.1=k))=true then kvs.map (fun kv=>if kv.1=k then (kv.1,v) else kv) else kvs++[(k,v)]
theorem zaL.get {K:Frg} {H:Hp} {k:Key} {w:W}:∀ {l:List (Key×W)} {l':List (Key×V)},zaL K H l l'->dget l k=some w->∃ v,valV l' k=some v/\Rep K H w v
 | [],_,h,e=>by cases e
 |p::r,_,⟨v,t,e,h,hr⟩,q=>by
  subst e
  unfold dget at q
  rw [List.find?_cons] at q
  unfold valV
  rw [List.find?_cons]
  by_cases hk:p.1=k
  .simp only [hk,decide_true] at q ⊢
   cases q
   exact ⟨v,rfl,h⟩
  .simp only [hk,decide_false] at q ⊢
   exact zaL.get hr q
theorem zaL.any {K:Frg} {H:Hp} {k:Key}:∀ {l:List (Key×W)} {l':List (Key×V)},zaL K H l l'->(l'.any fun kv=>decide (kv.1=k))=l.any fun kv=>decide (kv.1=k)
 | [],_,h=>by rw [show _=[] from h];rfl
 |p::r,_,⟨v,t,e,h,hr⟩=>by subst e;rw [List.any_cons,List.any_cons,zaL.any hr]
theorem zaL.app {K:Frg} {H:Hp} {κ:Type}:∀ {l:List (κ×W)} {l':List (κ×V)} {m:List (κ×W)} {m':List (κ×V)},zaL K H l l'->zaL K H m m'->zaL K H (l++m) (l'++m')
 | [],_,_,_,h,h'=>by rw [show _=[] from h];exact h'
 |p::r,_,_,_,⟨v,t,e,h,hr⟩,h'=>by rw [e];exact ⟨v,_,rfl,h,zaL.app hr h'⟩
theorem zaL.repl {K:Frg} {H:Hp} {k:Key} {w:W} {v:V} (q:Rep K H w v):∀ {l:List (Key×W)} {l':List (Key×V)},zaL K H l l' ->
  zaL K H (l.map fun kv=>if kv.1=k then (kv.1,w) else kv) (l'.map fun kv=>if kv.1=k then (kv.1,v) else kv)
 | [],_,h=>by rw [show _=[] from h];rfl
 |p::r,_,⟨u,t,e,h,hr⟩=>by
  subst e
  rw [List.map_cons,List.map_cons]
  by_cases hk:p.1=k
  .simp only [hk,if_true];exact ⟨v,_,rfl,q,zaL.repl q hr⟩
  .simp only [hk,if_false];exact ⟨u,_,rfl,h,zaL.repl q hr⟩
theorem zaL.put {K:Frg} {H:Hp} {k:Key} {w:W} {v:V} {l:List (Key×W)} {l':List (Key×V)} (h:zaL K H l l') (q:Rep K H w v):zaL K H (dput l k w) (putK l' k v):=by
 unfold dput putK
 rw [h.any]
 split
 .exact zaL.repl q h
 .exact h.app ⟨v,[],rfl,q,rfl⟩
theorem zkB {K:Frg} {H:Hp} {y:W} {v:V} {k:Key} (r:Rep K H y v) (h:zmq y=some k):v=kV k:=by
 cases y <;> first | (cases h;cases r;rfl) | cases h
theorem zeP {k:Str}:∀ {es:List DictEntry} {ks:List Str} {vs:List V},zpa es ks vs->(es.all fun e=>isExactStrKey e.key)=true/\(match (ks.zip vs).lookup k with
  |some v=>∃ u,(es.find? fun e=>e.key.isStr k).map (·.val)=some u/\RelV v u
  |none=>(es.find? fun e=>e.key.isStr k).map (·.val)=none)
 | [],ks,vs,h=>by obtain ⟨rfl,rfl⟩:=h;exact ⟨rfl,rfl⟩
 |e::r,ks,vs,h=>by
  obtain ⟨x,t,v,ks',vs',rfl,rfl,hk,hv,hr⟩:=h
  have ih:=zeP (k:=k) hr
  refine ⟨by rw [List.all_cons,hk,ih.1];rfl,?_⟩
  rw [List.zip_cons_cons,List.lookup_cons,List.find?_cons,KTD.key_is hk k]
  by_cases hx:k=x
  .subst hx
   simp only [beq_self_eq_true,decide_true]
   exact ⟨e.val,rfl,hv⟩
  .have e1:(k==x)=false:=by simpa using hx
   rw [e1,decide_eq_false hx]
   exact ih.2
theorem zqx {X:Cx} {pins:List (Addr×Obj)} {σ:L2.St} {H:Hp} {s:Shared} {a:Addr} {ks:List Str} {vs:List V} {k:Str} {tk:Tok} {A:Around} {Q:Option Value->Shared->Prop} {E:Value->Shared->Prop} (I:Inv X pins σ H s) (h:KD X.K a ks vs)
  (q:match (ks.zip vs).lookup k with | some v=>∀ u s',RelV v u->Inv X pins σ H s'->Q (some u) s' | none=>∀ s',Inv X pins σ H s'->Q none s'):wpAny (model X.prog X.w) A (dictGet a (.str k tk)) Q E s:=by
 obtain ⟨o,es,ep,l,_,hd,_,_,hr⟩:=h
 have ho:=I.kIn _ _ l
 obtain ⟨hx,hf⟩:=zeP (k:=k) hr
 have J:Inv X pins σ H { s with toks:=s.toks+1 }:=I.tok _
 unfold dictGet
 try with_reducible refine wpAny_holding ?_
 refine wpAny_bind (wpAny_pyHash_str (wpAny_bind ?_))
 refine KTD.kt_dictFind_strs (s:={ s with toks:=s.toks+1 }) ho hd (by obtain ⟨es'⟩:=es;simpa using hx) ?_
 have key:Q (findBy (fun k v=>v.isStr k) es k) { s with toks:=s.toks+1 }:=by
  have e:findBy (fun k v=>v.isStr k) es k=(es.toList.find? fun e=>e.key.isStr k).map (·.val):=by obtain ⟨es'⟩:=es;simp [findBy]
  rw [e]
  revert q hf
  cases (ks.zip vs).lookup k with
  |some v=>intro q hf;obtain ⟨u,e1,r⟩:=hf;rw [e1];exact q u _ r J
  |none=>intro q hf;rw [hf];exact q _ J
 rw [findBy_of_findIdx?] at key
 revert key
 cases es.findIdx? fun e=>e.key.isStr k with
 |none=>exact fun key=>wpAny_pure key
 |some i=>exact fun key=>wpAny_bind (wpAny_dictEntries (s:={ s with toks:=s.toks+1 }) ho hd (wpAny_pure key))
theorem kd_ty {X:Cx} {pins:List (Addr×Obj)} {σ:L2.St} {H:Hp} {s:Shared} {a:Addr} {ks:List Str} {vs:List V} (I:Inv X pins σ H s) (h:KD X.K a ks vs):s.TypeIs (.ref a) "dict" := by
 obtain ⟨o,es,ep,l,hc,_⟩:=h
 exact ⟨o,I.kIn _ _ l,hc.1⟩
theorem ix_kd {X:Cx} {value slice:PySem.Expr} {pins:List (Addr×Obj)} {s:Shared} {σ:L2.St} {H:Hp} {a:Addr} {u:Value} {ks:List Str} {vs:List V} {k:Str} {v:V} {Q:VK} (I:Inv X pins σ H s) (h:KD X.K a ks vs) (ry:RelV (.str k) u) (e:(ks.zip vs).lookup k=some v) (q:Q v H)
  (hs:subscripted slice false (.ref a) u=operate [.ref a,u] (getItem (.ref a) u)):wpAny (model X.prog X.w) X.A (subscriptTail value slice (.ref a) u) (EP X pins σ Q) X.xe s:=by
 have hT:=kd_ty I h
 obtain ⟨tk,rfl⟩:=ry
 refine tail_any hT PySem.F.slot_dict_getitem.lookup ?_ hs
 unfold getItem
 try with_reducible refine wpAny_holding ?_
 refine wpAny_bind (wpAny_sequenceKey hT (by decide) (wpAny_bind ?_))
 refine wpAny_callSpecial?_slot (name:=Str.ofString "__getitem__") hT PySem.F.slot_dict_getitem (wpAny_call_entry PySem.F.slot_dict_getitem hT PySem.F.entry_dict_getitem ?_ (PySem.F.args_dict_getitem_2 _ _))
 show wpAny _ _ (dictGet a (.str k tk) >>= _) _ _ s
 refine wpAny_bind (zqx I h ?_)
 rw [e]
 exact fun u s' r J=>wpAny_pure ⟨u,rfl,wpAny_pure ⟨v,H,J,r,q⟩⟩
theorem zdU {K:Frg} {H:Hp} {k:Str} {w:W}:∀ {ks:List Str} {ws:List W} {vs:List V},Reps K H ws vs->(ks.zip ws).lookup k=some w->∃ v,(ks.zip vs).lookup k=some v/\Rep K H w v
 | [],ws,vs,_,e=>by simp at e
 |x::ks,[],vs,_,e=>by simp at e
 |x::ks,y::ws,vs,r,e=>by
  obtain ⟨v,vs',rfl,rv,rs⟩:=r
  rw [List.zip_cons_cons,List.lookup_cons] at e ⊢
  cases hx:(k==x) with
  |true=>rw [hx] at e;cases e;exact ⟨v,rfl,rv⟩
  |false=>rw [hx] at e;exact zdU rs e
def ixR:R3:=fun x y G Q=>match x,y with
 | .tup ws,.int i=>(match atI ws i with | some w=>Q w G | none=>False)
 | .str z,.int i=>z.length<=sizeLine/\(match atI z.cps.toList i with | some c=>Q (.str ⟨#[c]⟩) G | none=>False)
 | .ref p,y=>(match G p with
  |some (.lst ws)=>(match y with | .int i=>(match atI ws i with | some w=>Q w G | none=>False) | _=>False)
  |some (.fix ws)=>(match y with | .int i=>(match atI ws i with | some w=>Q w G | none=>False) | _=>False)
  |some (.dic kvs)=>(match zmq y with | some k=>(match dget kvs k with | some w=>Q w G | none=>False) | none=>False)
  |_=>False)
 | .dcf ks ws,.str k=>(match (ks.zip ws).lookup k with | some w=>Q w G | none=>False)
 |_,_=>False
theorem zla {K:Frg} {H:Hp} {ws:List W} {vs:List V} {i:Int} {w:W} (h:Reps K H ws vs) (e:atI ws i=some w):∃ v,atI vs i=some v/\Rep K H w v:=by
 unfold atI at e ⊢
 rw [h.length]
 cases q:ixN ws.length i with
 |none=>rw [q] at e;cases e
 |some j =>
  rw [q] at e
  exact h.get e
theorem ziE:zhc ixR:=by
 intro x y G Q Q' k h
 cases x with
 |tup ws =>
  cases y <;> simp only [ixR] at h ⊢ <;> first
   |exact h.elim
   | (split at h <;> first | exact k _ _ h | exact h.elim)
 |str z =>
  cases y <;> simp only [ixR] at h ⊢ <;> first
   |exact h.elim
   | (refine ⟨h.1,?_⟩;have h:=h.2;split at h <;> first | exact k _ _ h | exact h.elim)
 |ref p =>
  simp only [ixR] at h ⊢
  split at h
  .cases y <;> simp only at h ⊢ <;> first
    |exact h.elim
    | (split at h <;> first | exact k _ _ h | exact h.elim)
  .cases y <;> simp only at h ⊢ <;> first
    |exact h.elim
    | (split at h <;> first | exact k _ _ h | exact h.elim)
  .split at h
   .split at h
    .exact k _ _ h
    .exact h.elim
   .exact h.elim
  .exact h.elim
 |dcf ks ws =>
  cases y <;> simp only [ixR] at h ⊢ <;> first
   |exact h.elim
   | (split at h <;> first | exact k _ _ h | exact h.elim)
 |_=>exact h.elim
section
variable {X : Cx}
theorem zqB (hu:X.A.units+200<cLine) {value slice:PySem.Expr} {pins:List (Addr×Obj)} {s:Shared} {σ:L2.St} {H:Hp} {a:Addr} {u:Value} {y v:V} {Q:VK} (I:Inv X pins σ H s) (g:DGet H a y (some v)) (hd:IsD H a) (ry:RelV y u) (q:Q v H)
  (hs:subscripted slice false (.ref a) u=operate [.ref a,u] (getItem (.ref a) u)):wpAny (model X.prog X.w) X.A (subscriptTail value slice (.ref a) u) (EP X pins σ Q) X.xe s:=by
 exact tail_any (zqN I hd).1 PySem.F.slot_dict_getitem.lookup (zkY (by omega) I g ry fun w' s' I' r'=>⟨v,H,I',r',q⟩) hs
theorem ix_ok (hu:X.A.units+200<cLine):IxR X (low2 X.K ixR):=by
 intro value slice pins s σ H v u a b Q I rv ru h hs
 obtain ⟨x,y,G,rx,ry,ab,h⟩:=h
 cases x with
 |tup ws =>
  cases y with
  |int i =>
   obtain ⟨a1,vs,rfl,q,rs⟩:=rx
   cases ry
   simp only [ixR] at h
   split at h
   .rename_i w e
    obtain ⟨vv,ev,rp⟩:=zla rs e
    exact zqz value slice pins s σ H _ _ _ _ Q I rv ru ⟨a1,vs,i,vv,rfl,rfl,q,ev,h _ _ .refl rp ab⟩ hs
   .exact h.elim
  |_=>exact h.elim
 |str z =>
  cases y with
  |int i =>
   cases rx;cases ry
   simp only [ixR] at h
   obtain ⟨hz,h⟩:=h
   split at h
   .rename_i c e
    exact zqA value slice pins s σ H _ _ _ _ Q I rv ru ⟨z,i,c,rfl,rfl,hz,e,h _ _ .refl rfl ab⟩ hs
   .exact h.elim
  |_=>exact h.elim
 |ref p =>
  cases rx
  have lk:∀ ws i w,zav G p=some ws->y=.int i->atI ws i=some w->lowQ X.K H Q w G->wpAny (model X.prog X.w) X.A (subscriptTail value slice a b) (EP X pins σ Q) X.xe s:=fun ws i w e ey ew q=>by
   subst ey
   obtain ⟨vs,sq,rs⟩:=ab.seq e
   obtain ⟨vv,ev,rp⟩:=zla rs ew
   cases ry
   exact zoo value slice pins s σ H _ _ _ _ Q I rv ru ⟨p,vs,i,vv,rfl,rfl,sq,ev,q _ _ .refl rp ab⟩ hs
  simp only [ixR] at h
  split at h
  .rename_i ws e
   cases y with
   |int i =>
    simp only at h
    split at h
    .rename_i w ew;exact lk ws i w (by unfold zav;rw [e]) rfl ew h
    .exact h.elim
   |_=>exact h.elim
  .rename_i ws e
   cases y with
   |int i =>
    simp only at h
    split at h
    .rename_i w ew;exact lk ws i w (by unfold zav;rw [e]) rfl ew h
    .exact h.elim
   |_=>exact h.elim
  .rename_i kvs e
   split at h
   .rename_i k ek
    split at h
    .rename_i w ew
     obtain ⟨l,e',rk⟩:=ab.dic e
     obtain ⟨vv,ev,rp⟩:=rk.get ew
     have ey:=zkB ry ek
     subst ey
     obtain rfl:a=Value.ref p:=rv
     exact zqB hu I (.inl ⟨l,k,.inl e',rfl,ev.symm⟩) (.inl ⟨l,.inl e'⟩) ru (h _ _ .refl rp ab) hs
    .exact h.elim
   .exact h.elim
  .exact h.elim
 |dcf ks ws =>
  cases y with
  |str k =>
   obtain ⟨a1,vs,rfl,kd,rs⟩:=rx
   obtain rfl:a=Value.ref a1:=rv
   cases (show u=.str k from ry)
   simp only [ixR] at h
   split at h
   .rename_i w e
    obtain ⟨vv,ev,rp⟩:=zdU rs e
    exact ix_kd I kd ru ev (h _ _ .refl rp ab) hs
   .exact h.elim
  |_=>exact h.elim
 |_=>exact h.elim
end
def cut {α:Type} (xs:List α) (lo hi:Option Int):List α:=(xs.drop (HT.sIx xs.length 0 lo)).take (HT.sIx xs.length xs.length hi - HT.sIx xs.length 0 lo)
theorem zhP {K:Frg} {H:Hp} {ws:List W} {vs:List V} (h:Reps K H ws vs) (lo hi:Option Int):Reps K H (cut ws lo hi) (cutV vs lo hi):=by
 unfold cut cutV
 rw [h.length]
 exact (h.drop _).take _
def slR:W->Option Int->Option Int->Hw->Q3->Prop:=fun x lo hi G Q=>match x with
 | .tup ws=>Q (.tup (cut ws lo hi)) G
 | .ref p=>(match zav G p with | some ws=>∀ r,G r=none->Q (.ref r) (put G r (.lst (cut ws lo hi))) | none=>False)
 | .lsf ws=>∀ r,G r=none->Q (.ref r) (put G r (.lst (cut ws lo hi)))
 | .str x=>x.length<=sizeLine/\Q (.str (Txt.slice x lo hi)) G
 |_=>False
theorem zij {x:W} {lo hi:Option Int} {G:Hw} {Q Q':Q3} (k:∀ w G',Q w G'->Q' w G') (h:slR x lo hi G Q):slR x lo hi G Q':=by
 cases x with
 |tup ws=>exact k _ _ h
 |ref p =>
  simp only [slR] at h ⊢
  split at h
  .exact fun r hr=>k _ _ (h r hr)
  .exact h.elim
 |lsf ws=>exact fun r hr=>k _ _ (h r hr)
 |str x=>exact ⟨h.1,k _ _ h.2⟩
 |_=>exact h.elim
theorem zpx {X:Cx} {pins:List (Addr×Obj)} {s:Shared} {σ:L2.St} {H:Hp} {x:Str} {v vl vu:Value} {lo hi:Option Int} {sl:Addr} {Q:VK} (I:Inv X pins σ H s) (rv:RelV (.str x) v) (hs:s.heap.IsSliceOf sl vl vu .none)
  (pl:IsPart vl lo) (pu:IsPart vu hi) (hz:x.length<=sizeLine) (q:Q (.str (Txt.slice x lo hi)) H):∃ T id,typeLookup (.type T) "__getitem__" = pure (some (.builtin id))/\s.TypeIs v T/\wpAny (model X.prog X.w) X.A (getItem v (.ref sl)) (EP X pins σ Q) X.xe s:=by
 obtain ⟨t,rfl⟩:=rv
 have fin:∀ t' k,EP X pins σ Q (.str (Txt.slice x lo hi) t') { s with toks:=k }:=fun t' k=>⟨.str (Txt.slice x lo hi),H,I.tok _,⟨t',rfl⟩,q⟩
 have hz':=Nat.le_trans (Txt.slice_le x lo hi) hz
 refine ⟨"str", _,F.slot_str_getitem.lookup,typeIs_str _ _ _,?_⟩
 obtain ⟨o,ho,hc,hd⟩:=hs
 cases pl with
 |none =>
  cases pu with
  |none=>exact wpAny_getItem_str_slice (l:=none) (u:=none) (st:=none) ⟨o,ho,hc,hd⟩ rfl (post_val_or_str ⟨hz',fin⟩)
  |int j tj=>exact wpAny_getItem_str_slice (l:=none) (u:=some (j,tj)) (st:=none) ⟨o,ho,hc,hd⟩ rfl (post_val_or_str ⟨hz',fin⟩)
 |int i ti =>
  cases pu with
  |none=>exact wpAny_getItem_str_slice (l:=some (i,ti)) (u:=none) (st:=none) ⟨o,ho,hc,hd⟩ rfl (post_val_or_str ⟨hz',fin⟩)
  |int j tj=>exact wpAny_getItem_str_slice (l:=some (i,ti)) (u:=some (j,tj)) (st:=none) ⟨o,ho,hc,hd⟩ rfl (post_val_or_str ⟨hz',fin⟩)
def lowSl (K:Frg) (r:W->Option Int->Option Int->Hw->Q3->Prop):V->Option Int->Option Int->Hp->VK->Prop:=fun v lo hi H Q=>∃ x G,Rep K H x v/\Abs K H G/\r x lo hi G (lowQ K H Q)
theorem sl_ok {X:Cx}:SlR X (lowSl X.K slR):=by
 intro pins s σ H v u vl vu lo hi sl Q I rv hs pl pu h
 obtain ⟨x,G,rx,ab,h⟩:=h
 cases x with
 |tup ws =>
  obtain ⟨a,vs,rfl,q,rs⟩:=rx
  by_cases hw:HT.sIx vs.length 0 lo=0/\HT.sIx vs.length vs.length hi=vs.length
  .have e:cut ws lo hi=ws:=by
    have hw':=hw
    rw [rs.length] at hw'
    unfold cut
    rw [hw'.1,hw'.2,List.drop_zero,Nat.sub_zero,List.take_length]
   have h':lowQ X.K H Q (.tup (cut ws lo hi)) G:=h
   rw [e] at h'
   exact zlz pins s σ H _ _ vl vu lo hi sl Q I rv hs pl pu ⟨a,vs,rfl,q,hw,h' _ _ .refl ⟨a,vs,rfl,q,rs⟩ ab⟩
  .exact zpw pins s σ H _ _ vl vu lo hi sl Q I rv hs pl pu ⟨a,vs,rfl,q,hw,zdJ ab (zhP rs lo hi) h⟩
 |ref p =>
  cases rx
  simp only [slR] at h
  split at h
  .rename_i ws e
   obtain ⟨vs,sq,rs⟩:=ab.seq e
   exact zjS pins s σ H _ _ vl vu lo hi sl Q I rv hs pl pu ⟨p,vs,rfl,sq,zb6 ab (zhP rs lo hi) h⟩
  .exact h.elim
 |lsf ws =>
  obtain ⟨a,vs,rfl,q,rs⟩:=rx
  exact zjS pins s σ H _ _ vl vu lo hi sl Q I rv hs pl pu ⟨a,vs,rfl,.inr q,zb6 ab (zhP rs lo hi) h⟩
 |str x =>
  cases (show v=.str x from rx)
  exact zpx I rv hs pl pu h.1 (h.2 _ _ .refl rfl ab)
 |_=>exact h.elim
def setR:W->W->W->Hw->(Hw->Prop)->Prop:=fun o i v G Q=>match o with
 | .ref p=>(match G p with
  |some (.lst ws)=>(match i with | .int k=>(match ixN ws.length k with | some j=>Q (put G p (.lst (ws.set j v))) | none=>False) | _=>False)
  |some (.dic kvs)=>(match zmq i with | some k=>kvs.length<sizeLine/\Q (put G p (.dic (dput kvs k v))) | none=>False)
  |_=>False)
 |_=>False
theorem zjT {o i v:W} {G:Hw} {Q Q':Hw->Prop} (k:∀ G',Q G'->Q' G') (h:setR o i v G Q):setR o i v G Q':=by
 cases o with
 |ref p =>
  simp only [setR] at h ⊢
  split at h
  .cases i <;> simp only at h ⊢ <;> first
    |exact h.elim
    | (split at h <;> first | exact k _ h | exact h.elim)
  .split at h
   .exact ⟨h.1,k _ h.2⟩
   .exact h.elim
  .exact h.elim
 |_=>exact h.elim
def znk (K:Frg):TSet:=fun o i v H Q=>∃ x y z G,Rep K H x o/\Rep K H y i/\Rep K H z v/\Abs K H G/\setR x y z G fun G'=>∀ H',Grow K H H'->Abs K H' G'->Q H'
theorem zpy {X:Cx} (hu:X.A.units+200<cLine):PSet X (znk X.K):=by
 intro pins s σ H o i v ov iv u Q I ro ri rv h
 obtain ⟨x,y,z,G,rx,ry,rz,ab,h⟩:=h
 cases x with
 |ref p =>
  cases rx
  simp only [setR] at h
  split at h
  .rename_i ws e
   cases y with
   |int k =>
    simp only at h
    split at h
    .rename_i j ej
     cases ry
     obtain ⟨vs,q1,r1⟩:=ab.lst e
     refine zlA pins s σ H _ _ _ _ _ _ Q I ro ri rv ⟨p,vs,k,j,rfl,rfl,q1,by rw [r1.length];exact ej,?_⟩
     have g:=ab.grow (u:=.lst (vs.set j v)) e
     exact h _ g (ab.chg e ⟨_,rfl,((r1.mono g).set (rz.mono g) j)⟩)
    .exact h.elim
   |_=>exact h.elim
  .rename_i kvs e
   split at h
   .rename_i k ek
    obtain ⟨l,e',rk⟩:=ab.dic e
    have ey:=zkB ry ek
    subst ey
    obtain rfl:ov=Value.ref p:=ro
    refine zkX (by omega) I (.inl ⟨l,k,e',rfl,by rw [rk.length];exact h.1,rfl⟩) ri rv fun s' I'=>⟨_,I',?_⟩
    have g:=ab.grow (u:=.dK (putK l k v)) e
    exact h.2 _ g (ab.chg e ⟨_,rfl,(rk.mono g).put (rz.mono g)⟩)
   .exact h.elim
  .exact h.elim
 |_=>exact h.elim
end L3
set_option Elab.async false
set_option linter.all false
set_option maxRecDepth 100000
set_option maxHeartbeats 4000000
namespace L3
open PySem PySem.Spec PyProof.Rows L2
abbrev XQ:=Str->List (Str×W)->Hw->Prop
def XN:XQ:=fun _ _ _=>False
abbrev Sp3:=List W->Hw->Q3->XQ->Prop
structure Fn3 where
 nm:Str
 sp:Sp3
structure Mt3 where
 nm:Str
 T:String
 sp:W->List W->Hw->Q3->Prop
abbrev I3:=St3->Hw->(List W->(Hw->Prop)->Hw->Prop)->Prop
structure It3 where
 nm:Str
 sp:List W->Hw->(List W->(Hw->Prop)->Hw->Prop)->Prop
structure Sx3 where
 m:Scope->Expr->Option (List Expr)
 sp:List W->Hw->Q3->Prop
structure Ix3 where
 m:Scope->Expr->Option (List Expr)
 sp:List W->Hw->(List W->(Hw->Prop)->Hw->Prop)->Prop
structure Ctx3 where
 fn:List Fn3
 gl:List (Str×W)
 mt:List Mt3
 it:List It3
 cl:List (Addr×List Str)
 sx:List Sx3
 ix:List Ix3
set_option genInjectivity false
mutual
inductive IE where
 |var (i:Nat) | con (c:Const) | glb (i:Nat)
 |bin (op:Operator) (a b:IE) | neg (a:IE) | not (a:IE)
 |cmp (op:CmpOp) (a b:IE) | chn (o1 o2:CmpOp) (a b c:IE)
 |and (a b:IE) | or (a b:IE) | ite (c a b:IE)
 |ix (a i:IE) | sl (a:IE) (lo hi:IO)
 |tup (es:IEs) | lst (es:IEs) | dct (ks:List Str) (es:IEs)
 |call (f:Nat) (es:IEs) | mth (m:Nat) (o:IE) (es:IEs) | att (o:IE) (f:Str)
 |lc (tg:ITg) (names:List Str) (caps:List Nat) (it:II) (c:IO) (elt:IE)
 |spc (i:Nat) (es:IEs) | ch3 (o1 o2 o3:CmpOp) (a b c d:IE)
inductive IO where
 |no | yes (e:IE)
inductive IEs where
 |nil | cons (e:IE) (es:IEs)
inductive II where
 |val (e:IE) | blt (i:Nat) (es:IEs) | spc (i:Nat) (es:IEs)
inductive ITg where
 |nm (i:Nat) | tup (ts:ITgs)
inductive ITgs where
 |nil | cons (t:ITg) (ts:ITgs)
end
mutual
inductive IS where
 |asg (i:Nat) (e:IE) | asgT (ts:ITgs) (e:IE) | asgI (o i e:IE) | asgA (o:IE) (f:Str) (e:IE)
 |ex (e:IE) | ret (e:IE) | retN | pass | brk | cnt
 |ite (c:IE) (a b:ISs) | whl (c:IE) (b:ISs) | for (tg:ITg) (it:II) (b:ISs) | dead
inductive ISs where
 |nil | cons (s:IS) (ss:ISs)
end
def conW:Const->Option W
 | .none=>some .non
 | .bool b=>some (.bl b)
 | .int i=>some (.int i)
 | .str x=>some (.str x)
 |_=>none
abbrev G3:=W->St3->Hw->(St3->Hw->Prop)->Prop
abbrev Gs3:=List W->St3->Hw->(St3->Hw->Prop)->Prop
mutual
def semG:ITg->G3
 | .nm i=>fun w σ G Q=>Q (σ.set i (some w)) G
 | .tup ts=>fun w σ G Q=>match w with
  | .tup ws=>zab ts ws σ G Q
  |_=>False
def zab:ITgs->Gs3
 | .nil=>fun ws σ G Q=>match ws with | []=>Q σ G | _=>False
 | .cons t ts=>fun ws σ G Q=>match ws with
  |w::r=>semG t w σ G fun σ' G'=>zab ts r σ' G' Q
  | []=>False
end
def capS (k:Nat) (caps:List Nat) (σ:St3):St3:=List.replicate k none++caps.map fun j=>(σ[j]?).join
def sgs (x:Str):List W:=x.cps.toList.map fun c=>.str ⟨#[c]⟩
def zbc (w:W) (G:Hw) (R:List W->(Hw->Prop)->Hw->Prop):Prop:=match w with
 | .tup ws=>R ws (fun _=>True) G
 | .ref p=>(match zav G p with | some ws=>R ws (fun G'=>zav G' p=some ws) G | none=>False)
 | .str x=>R (sgs x) (fun _=>True) G
 |_=>False
def lcR (items:List W) (stab:Hw->Prop) (G1:Hw) (turn:W->Hw->(Option W->Hw->Prop)->Prop) (Q:Q3):Prop :=
 ∃ Pv:Nat->List W->Hw->Prop,Pv 0 [] G1/\(∀ i acc G,Pv i acc G->i<=items.length->stab G/\acc.length<=i)/\items.length<=sizeLine /\
  (∀ i w acc G,items[i]?=some w->Pv i acc G->turn w G fun o G'=>match o with | some x=>Pv (i+1) (acc++[x]) G' | none=>Pv (i+1) acc G') /\
  ∀ acc G,Pv items.length acc G->∀ p,G p=none->Q (.ref p) (put G p (.lst acc))
def negR (w:W) (G:Hw) (Q:Q3):Prop:=match w with | .int i=>Q (.int (-i)) G | _=>False
def blR (w:W) (Q:Bool->Prop):Prop:=match w with | .bl b=>Q b | _=>False
def intR (w:W) (Q:Int->Prop):Prop:=match w with | .int i=>Q i | _=>False
def tyW (G:Hw):W->String->Prop
 | .str _,T=>T = "str"
 | .ref p,T=>match G p with
  |some (.lst _)=>T = "list"
  |some (.fix _)=>T = "list"
  |some (.dic _)=>T = "dict"
  |_=>False
 |_,_=>False
def attR (cl:List (Addr×List Str)) (f:Str) (w:W) (G:Hw) (Q:Q3):Prop:=match w with
 | .ref p=>(match G p with
  |some (.ins C fs)=>(∃ l,(C,l)∈cl/\f∈l)/\(match fs.lookup f with | some v=>Q v G | none=>False)
  |_=>False)
 |_=>False
def zcS (f:Str) (v:W):List (Str×W)->List (Str×W)
 | []=>[(f,v)]
 | (g,x)::r=>if g=f then (g,v)::r else (g,x)::zcS f v r
def satR (cl:List (Addr×List Str)) (f:Str) (o v:W) (G:Hw) (Q:Hw->Prop):Prop:=match o with
 | .ref p=>(match G p with
  |some (.ins C fs)=>(∃ l,(C,l)∈cl/\f∈l)/\fs.length<1000/\Q (put G p (.ins C (zcS f v fs)))
  |_=>False)
 |_=>False
def zoX (ks:List Str) (ws:List W):List (Key×W):=(ks.zip ws).foldl (fun acc kv=>dput acc (.inr kv.1) kv.2) []
structure ET where
 e:E3
 t:T3
def truE (e:E3):T3:=fun σ G Q=>e σ G fun w G1=>match truW G1 w with | some b=>Q b G1 | none=>False
def blE (e:E3):T3:=fun σ G Q=>e σ G fun w G1=>blR w fun b=>Q b G1
def mkE (e:E3):ET:=⟨e,truE e⟩
def mkB (e:E3):ET:=⟨e,blE e⟩
def seqA:List E3->A3
 | []=>fun _ G Q=>Q [] G
 |e::es=>fun σ G Q=>e σ G fun x G1=>seqA es σ G1 fun xs G2=>Q (x::xs) G2
section
variable (Γ : Ctx3)
mutual
def sem (E:XQ):IE->ET
 | .var i=>mkE fun σ G Q=>match σ[i]? with | some (some w)=>Q w G | _=>False
 | .con c=>mkE fun σ G Q=>match conW c with | some w=>Q w G | none=>False
 | .glb i=>mkE fun σ G Q=>match Γ.gl[i]? with | some p=>Q p.2 G | none=>False
 | .bin op a b=>mkE fun σ G Q=>(sem E a).e σ G fun x G1=>(sem E b).e σ G1 fun y G2=>binR op x y G2 Q
 | .neg a=>mkE fun σ G Q=>(sem E a).e σ G fun x G1=>negR x G1 Q
 | .not a=>⟨fun σ G Q=>(sem E a).e σ G fun x G1=>blR x fun b=>Q (.bl (!b)) G1,fun σ G Q=>(sem E a).t σ G fun b G1=>Q (!b) G1⟩
 | .cmp op a b=>mkB fun σ G Q=>(sem E a).e σ G fun x G1=>(sem E b).e σ G1 fun y G2=>cmpR op x y G2 Q
 | .chn o1 o2 a b c=>mkB fun σ G Q=>(sem E a).e σ G fun x G1=>(sem E b).e σ G1 fun y G2=>cmpR o1 x y G2 fun z G3=>blR z fun k =>
   if k=true then (sem E c).e σ G3 fun u G4=>cmpR o2 y u G4 Q else Q (.bl false) G3
 | .and a b=>⟨fun σ G Q=>(sem E a).e σ G fun x G1=>blR x fun k=>if k=true then (sem E b).e σ G1 Q else Q (.bl false) G1,
   fun σ G Q=>(sem E a).t σ G fun k G1=>if k=true then (sem E b).t σ G1 Q else Q false G1⟩
 | .or a b=>⟨fun σ G Q=>(sem E a).e σ G fun x G1=>blR x fun k=>if k=true then Q (.bl true) G1 else (sem E b).e σ G1 Q,
   fun σ G Q=>(sem E a).t σ G fun k G1=>if k=true then Q true G1 else (sem E b).t σ G1 Q⟩
 | .ite c a b=>⟨fun σ G Q=>(sem E c).t σ G fun k G1=>if k=true then (sem E a).e σ G1 Q else (sem E b).e σ G1 Q,fun _ _ _=>False⟩
 | .ix a i=>mkE fun σ G Q=>(sem E a).e σ G fun x G1=>(sem E i).e σ G1 fun y G2=>ixR x y G2 Q
 | .sl a lo hi=>mkE fun σ G Q=>(sem E a).e σ G fun x G1=>semO E lo σ G1 fun l G2=>semO E hi σ G2 fun u G3=>slR x l u G3 Q
 | .tup es=>mkE fun σ G Q=>semA E es σ G fun ws G1=>ws.length<=sizeLine/\Q (.tup ws) G1
 | .lst es=>mkE fun σ G Q=>semA E es σ G fun ws G1=>ws.length<=sizeLine/\∀ p,G1 p=none->Q (.ref p) (put G1 p (.lst ws))
 | .dct ks es=>mkE fun σ G Q=>∀ p,G p=none->semA E es σ (put G p (.dic [])) fun ws G1=>G1 p=some (.dic [])/\ws.length=ks.length/\Q (.ref p) (put G1 p (.dic (zoX ks ws)))
 | .call f es=>mkE fun σ G Q=>semA E es σ G fun ws G1=>match Γ.fn[f]? with | some h=>h.sp ws G1 Q E | none=>False
 | .mth m o es=>mkE fun σ G Q=>(sem E o).e σ G fun x G1=>match Γ.mt[m]? with | some h=>tyW G1 x h.T/\semA E es σ G1 fun ws G2=>h.sp x ws G2 Q | none=>False
 | .att o f=>mkE fun σ G Q=>(sem E o).e σ G fun x G1=>attR Γ.cl f x G1 Q
 | .lc tg names caps it c elt=>mkE fun σ G Q=>semI E it σ G fun items stab G1 =>
   lcR items stab G1 (fun w G' K=>semG tg w (capS names.length caps σ) G' fun σ2 G2=>semC c σ2 G2 fun b G3=>if b=true then (sem XN elt).e σ2 G3 fun x G4=>K (some x) G4 else K none G3) Q
 | .spc i es=>mkE fun σ G Q=>semA E es σ G fun ws G1=>match Γ.sx[i]? with | some h=>h.sp ws G1 Q | none=>False
 | .ch3 o1 o2 o3 a b c d=>mkB fun σ G Q=>(sem E a).e σ G fun x G1=>(sem E b).e σ G1 fun y G2=>cmpR o1 x y G2 fun z G3=>blR z fun k =>
   if k=true then (sem E c).e σ G3 fun u G4=>cmpR o2 y u G4 fun z2 G5=>blR z2 fun k2 =>
    if k2=true then (sem E d).e σ G5 fun t G6=>cmpR o3 u t G6 Q else Q (.bl false) G5
   else Q (.bl false) G3
def semO (E:XQ):IO->St3->Hw->(Option Int->Hw->Prop)->Prop
 | .no=>fun _ G Q=>Q none G
 | .yes e=>fun σ G Q=>(sem E e).e σ G fun x G1=>intR x fun i=>Q (some i) G1
def semC:IO->T3
 | .no=>fun _ G Q=>Q true G
 | .yes e=>(sem XN e).t
def semA (E:XQ):IEs->A3
 | .nil=>fun _ G Q=>Q [] G
 | .cons e es=>fun σ G Q=>(sem E e).e σ G fun x G1=>semA E es σ G1 fun xs G2=>Q (x::xs) G2
def semI (E:XQ):II->I3
 | .val e=>fun σ G R=>(sem E e).e σ G fun w G1=>zbc w G1 R
 | .blt i es=>fun σ G R=>semA E es σ G fun ws G1=>match Γ.it[i]? with | some h=>h.sp ws G1 R | none=>False
 | .spc i es=>fun σ G R=>semA E es σ G fun ws G1=>match Γ.ix[i]? with | some h=>h.sp ws G1 R | none=>False
end
def semL:IEs->List E3
 | .nil=>[]
 | .cons e es=>(sem Γ XN e).e::semL es
abbrev semE (E:XQ) (e:IE):E3:=(sem Γ E e).e
abbrev semT (E:XQ) (e:IE):T3:=(sem Γ E e).t
def forR (items:List W) (stab:Hw->Prop) (D:End3) (σ:St3) (G1:Hw) (turn:W->End3->St3->Hw->Prop):Prop :=
 ∃ Pv:Nat->St3->Hw->Prop,Pv 0 σ G1/\(∀ i σ G,Pv i σ G->i<=items.length->stab G) /\
  (∀ i w σ G,items[i]?=some w->Pv i σ G->turn w { D with nx:=Pv (i+1),ct:=Pv (i+1),bk:=D.nx } σ G)/\∀ σ G,Pv items.length σ G->D.nx σ G
mutual
def semS (E:XQ):IS->S3
 | .asg i e=>fun D σ G=>semE Γ E e σ G fun w G1=>D.nx (σ.set i (some w)) G1
 | .asgT ts e=>fun D σ G=>semE Γ E e σ G fun w G1=>semG (.tup ts) w σ G1 D.nx
 | .asgI o i e=>fun D σ G=>semE Γ E e σ G fun w G1=>semE Γ E o σ G1 fun x G2=>semE Γ E i σ G2 fun y G3=>setR x y w G3 fun G4=>D.nx σ G4
 | .asgA o f e=>fun D σ G=>semE Γ E e σ G fun w G1=>semE Γ E o σ G1 fun x G2=>satR Γ.cl f x w G2 fun G3=>D.nx σ G3
 | .ex e=>fun D σ G=>semE Γ E e σ G fun _ G1=>D.nx σ G1
 | .ret e=>fun D σ G=>semE Γ E e σ G D.rt
 | .retN=>fun D _ G=>D.rt .non G
 | .pass=>fun D σ G=>D.nx σ G
 | .brk=>fun D σ G=>D.bk σ G
 | .cnt=>fun D σ G=>D.ct σ G
 | .ite c a b=>fun D σ G=>semT Γ E c σ G fun k G1=>if k=true then zaf E a D σ G1 else zaf E b D σ G1
 | .whl c b=>fun D σ G=>∃ Pv:Nat->St3->Hw->Prop,(∃ m,Pv m σ G)/\∀ m σ G,Pv m σ G->semT Γ E c σ G fun k G1 =>
   if k=true then zaf E b { D with nx:=fun σ' G'=>∃ m',m' < m/\Pv m' σ' G',ct:=fun σ' G'=>∃ m',m' < m/\Pv m' σ' G',bk:=D.nx } σ G1 else D.nx σ G1
 | .for tg it b=>fun D σ G=>semI Γ E it σ G fun items stab G1=>forR items stab D σ G1 fun w D' σ' G'=>semG tg w σ' G' fun σ2 G2=>zaf E b D' σ2 G2
 | .dead=>fun _ _ _=>False
def zaf (E:XQ):ISs->S3
 | .nil=>fun D σ G=>D.nx σ G
 | .cons s ss=>fun D σ G=>semS E s { D with nx:=zaf E ss D } σ G
end
end
theorem zcQ (Γ:Ctx3):∀ es:IEs,semA Γ XN es=seqA (semL Γ es)
 | .nil=>rfl
 | .cons e es=>by
  show (fun (σ:St3) (G:Hw) (Q:List W->Hw->Prop)=>(sem Γ XN e).e σ G fun x G1=>semA Γ XN es σ G1 fun xs G2=>Q (x::xs) G2)=_
  rw [zcQ Γ es]
  rfl
end L3
set_option Elab.async false
set_option linter.all false
set_option maxRecDepth 100000
set_option maxHeartbeats 4000000
namespace L3
open PySem PySem.Spec PyProof.Rows L2
structure TabMono (Γ:Ctx3):Prop where
 fn:∀ f∈Γ.fn,∀ ws G (Q Q':Q3) E,(∀ w G',Q w G'->Q' w G')->f.sp ws G Q E->f.sp ws G Q' E
 mt:∀ m∈Γ.mt,∀ x ws G (Q Q':Q3),(∀ w G',Q w G'->Q' w G')->m.sp x ws G Q->m.sp x ws G Q'
 it:∀ m∈Γ.it,∀ ws G (R R':List W->(Hw->Prop)->Hw->Prop),(∀ a b c,R a b c->R' a b c)->m.sp ws G R->m.sp ws G R'
 sx:∀ m∈Γ.sx,∀ ws G (Q Q':Q3),(∀ w G',Q w G'->Q' w G')->m.sp ws G Q->m.sp ws G Q'
 ix:∀ m∈Γ.ix,∀ ws G (R R':List W->(Hw->Prop)->Hw->Prop),(∀ a b c,R a b c->R' a b c)->m.sp ws G R->m.sp ws G R'
def zq7 (t:I3):Prop:=∀ σ G (R R':List W->(Hw->Prop)->Hw->Prop),(∀ a b c,R a b c->R' a b c)->t σ G R->t σ G R'
def zq6 (t:St3->Hw->(Option Int->Hw->Prop)->Prop):Prop:=∀ σ G (Q Q':Option Int->Hw->Prop),(∀ a b,Q a b->Q' a b)->t σ G Q->t σ G Q'
theorem zbO {w:W} {Q Q':Bool->Prop} (k:∀ b,Q b->Q' b) (h:blR w Q):blR w Q':=by
 cases w <;> first | exact k _ h | exact h.elim
theorem zgQ {w:W} {Q Q':Int->Prop} (k:∀ b,Q b->Q' b) (h:intR w Q):intR w Q':=by
 cases w <;> first | exact k _ h | exact h.elim
theorem zkk {w:W} {G:Hw} {Q Q':Q3} (k:∀ w G,Q w G->Q' w G) (h:negR w G Q):negR w G Q':=by
 cases w <;> first | exact k _ _ h | exact h.elim
theorem zk7 {cl:List (Addr×List Str)} {f:Str} {w:W} {G:Hw} {Q Q':Q3} (k:∀ w G,Q w G->Q' w G) (h:attR cl f w G Q):attR cl f w G Q':=by
 cases w with
 |ref p =>
  simp only [attR] at h ⊢
  split at h
  .refine ⟨h.1,?_⟩
   have h2:=h.2
   split at h2
   .exact k _ _ h2
   .exact h2.elim
  .exact h.elim
 |_=>exact h.elim
theorem zeR {w:W} {G:Hw} {R R':List W->(Hw->Prop)->Hw->Prop} (k:∀ a b c,R a b c->R' a b c) (h:zbc w G R):zbc w G R':=by
 cases w with
 |tup ws=>exact k _ _ _ h
 |ref p =>
  simp only [zbc] at h ⊢
  split at h
  .exact k _ _ _ h
  .exact h.elim
 |str x=>exact k _ _ _ h
 |_=>exact h.elim
theorem zml {items:List W} {stab:Hw->Prop} {G1:Hw} {turn:W->Hw->(Option W->Hw->Prop)->Prop} {Q Q':Q3} (k:∀ w G,Q w G->Q' w G) (h:lcR items stab G1 turn Q):lcR items stab G1 turn Q':=by
 obtain ⟨Pv,h0,h1,h2,h3,h4⟩:=h
 exact ⟨Pv,h0,h1,h2,h3,fun acc G hp p hn=>k _ _ (h4 acc G hp p hn)⟩
theorem zjF {e:E3} (m:zbB e):zea (truE e):=fun σ G Q Q' k h=>m σ G _ _ (fun w G1 q=>by
 split at q
 .exact k _ _ q
 .exact q.elim) h
theorem zmV {e:E3} (m:zbB e):zea (blE e):=fun σ G Q Q' k h=>m σ G _ _ (fun w G1 q=>zbO (fun b=>k b G1) q) h
theorem zaG {e:E3} (m:zbB e):zbB (mkE e).e/\zea (mkE e).t:=⟨m,zjF m⟩
theorem zfu {e:E3} (m:zbB e):zbB (mkB e).e/\zea (mkB e).t:=⟨m,zmV m⟩
theorem zbj {α:Type} {l:List α} {i:Nat} {x:α} (h:l[i]?=some x):x∈l:=List.mem_of_getElem? h
variable {Γ : Ctx3} (g : TabMono Γ)
include g
theorem ziz (e:IE):∀ E,zbB (sem Γ E e).e/\zea (sem Γ E e).t:=by
 refine IE.rec (motive_1:=fun e=>∀ E,zbB (sem Γ E e).e/\zea (sem Γ E e).t) (motive_2:=fun o=>(∀ E,zq6 (semO Γ E o))/\zea (semC Γ o)) (motive_3:=fun es=>∀ E,zdt (semA Γ E es)) (motive_4:=fun it=>∀ E,zq7 (semI Γ E it))
  (motive_5:=fun _=>True) (motive_6:=fun _=>True) ?var ?con ?glb ?bin ?neg ?not ?cmp ?chn ?and ?or ?ite ?ix ?sl ?tup ?lst ?dct ?call ?mth ?att ?lc ?spc ?ch3 ?no ?yes ?nil ?cons ?val ?blt ?ispc ?nm ?tt ?tn ?tc e
 case var =>
  intro i E
  refine zaG fun σ G Q Q' k h=>?_
  split at h
  .exact k _ _ h
  .exact h.elim
 case con =>
  intro c E
  refine zaG fun σ G Q Q' k h=>?_
  split at h
  .exact k _ _ h
  .exact h.elim
 case glb =>
  intro i E
  refine zaG fun σ G Q Q' k h=>?_
  split at h
  .exact k _ _ h
  .exact h.elim
 case bin=>exact fun op a b ha hb E=>zaG fun σ G Q Q' k h=>(ha E).1 σ G _ _ (fun x G1 h=>(hb E).1 σ G1 _ _ (fun y G2 h=>zg7 op x y G2 _ _ k h) h) h
 case neg=>exact fun a ha E=>zaG fun σ G Q Q' k h=>(ha E).1 σ G _ _ (fun x G1 h=>zkk k h) h
 case not=>exact fun a ha E=>⟨fun σ G Q Q' k h=>(ha E).1 σ G _ _ (fun x G1 h=>zbO (fun b=>k _ _) h) h,fun σ G Q Q' k h=>(ha E).2 σ G _ _ (fun b G1 h=>k _ _ h) h⟩
 case cmp=>exact fun op a b ha hb E=>zfu fun σ G Q Q' k h=>(ha E).1 σ G _ _ (fun x G1 h=>(hb E).1 σ G1 _ _ (fun y G2 h=>zaC op x y G2 _ _ k h) h) h
 case chn =>
  exact fun o1 o2 a b c ha hb hc E=>zfu fun σ G Q Q' k h=>(ha E).1 σ G _ _ (fun x G1 h=>(hb E).1 σ G1 _ _ (fun y G2 h=>zaC o1 x y G2 _ _ (fun z G3 h=>zbO (fun b h=>by
   split
   .rename_i hb;rw [if_pos hb] at h;exact (hc E).1 σ G3 _ _ (fun u G4 h=>zaC o2 y u G4 _ _ k h) h
   .rename_i hb;rw [if_neg hb] at h;exact k _ _ h) h) h) h) h
 case ch3 =>
  exact fun o1 o2 o3 a b c d ha hb hc hd E=>zfu fun σ G Q Q' k h=>(ha E).1 σ G _ _ (fun x G1 h=>(hb E).1 σ G1 _ _ (fun y G2 h=>zaC o1 x y G2 _ _ (fun z G3 h=>zbO (fun b h=>by
   split
   .rename_i hb;rw [if_pos hb] at h
    exact (hc E).1 σ G3 _ _ (fun u G4 h=>zaC o2 y u G4 _ _ (fun z2 G5 h=>zbO (fun b2 h=>by
     split
     .rename_i hb2;rw [if_pos hb2] at h;exact (hd E).1 σ G5 _ _ (fun t G6 h=>zaC o3 u t G6 _ _ k h) h
     .rename_i hb2;rw [if_neg hb2] at h;exact k _ _ h) h) h) h
   .rename_i hb;rw [if_neg hb] at h;exact k _ _ h) h) h) h) h
 case and =>
  exact fun a b ha hb E=>⟨fun σ G Q Q' k h=>(ha E).1 σ G _ _ (fun x G1 h=>zbO (fun c h=>by
   split
   .rename_i hc;rw [if_pos hc] at h;exact (hb E).1 σ G1 _ _ k h
   .rename_i hc;rw [if_neg hc] at h;exact k _ _ h) h) h,fun σ G Q Q' k h=>(ha E).2 σ G _ _ (fun c G1 h=>by
   split
   .rename_i hc;rw [if_pos hc] at h;exact (hb E).2 σ G1 _ _ k h
   .rename_i hc;rw [if_neg hc] at h;exact k _ _ h) h⟩
 case or =>
  exact fun a b ha hb E=>⟨fun σ G Q Q' k h=>(ha E).1 σ G _ _ (fun x G1 h=>zbO (fun c h=>by
   split
   .rename_i hc;rw [if_pos hc] at h;exact k _ _ h
   .rename_i hc;rw [if_neg hc] at h;exact (hb E).1 σ G1 _ _ k h) h) h,fun σ G Q Q' k h=>(ha E).2 σ G _ _ (fun c G1 h=>by
   split
   .rename_i hc;rw [if_pos hc] at h;exact k _ _ h
   .rename_i hc;rw [if_neg hc] at h;exact (hb E).2 σ G1 _ _ k h) h⟩
 case ite =>
  exact fun c a b hc ha hb E=>⟨fun σ G Q Q' k h=>(hc E).2 σ G _ _ (fun c G1 h=>by
   split
   .rename_i hc;rw [if_pos hc] at h;exact (ha E).1 σ G1 _ _ k h
   .rename_i hc;rw [if_neg hc] at h;exact (hb E).1 σ G1 _ _ k h) h,fun _ _ _ _ _ h=>h.elim⟩
 case ix=>exact fun a b ha hb E=>zaG fun σ G Q Q' k h=>(ha E).1 σ G _ _ (fun x G1 h=>(hb E).1 σ G1 _ _ (fun y G2 h=>ziE x y G2 _ _ k h) h) h
 case sl=>exact fun a lo hi ha hl hh E=>zaG fun σ G Q Q' k h=>(ha E).1 σ G _ _ (fun x G1 h=>(hl.1 E) σ G1 _ _ (fun l G2 h=>(hh.1 E) σ G2 _ _ (fun u G3 h=>zij k h) h) h) h
 case tup=>exact fun es hs E=>zaG fun σ G Q Q' k h=>(hs E) σ G _ _ (fun ws G1 h=>⟨h.1,k _ _ h.2⟩) h
 case lst=>exact fun es hs E=>zaG fun σ G Q Q' k h=>(hs E) σ G _ _ (fun ws G1 h=>⟨h.1,fun p hp=>k _ _ (h.2 p hp)⟩) h
 case dct=>exact fun ks es hs E=>zaG fun σ G Q Q' k h=>fun p hp=>(hs E) σ _ _ _ (fun ws G1 h=>⟨h.1,h.2.1,k _ _ h.2.2⟩) (h p hp)
 case call =>
  exact fun f es hs E=>zaG fun σ G Q Q' k h=>(hs E) σ G _ _ (fun ws G1 h=>by
   split at h
   .rename_i f' e;exact g.fn f' (zbj e) ws G1 Q Q' E k h
   .exact h.elim) h
 case mth =>
  exact fun m o es ho hs E=>zaG fun σ G Q Q' k h=>(ho E).1 σ G _ _ (fun x G1 h=>by
   split at h
   .rename_i m' e;exact ⟨h.1,(hs E) σ G1 _ _ (fun ws G2 h=>g.mt m' (zbj e) x ws G2 Q Q' k h) h.2⟩
   .exact h.elim) h
 case att=>exact fun o f ho E=>zaG fun σ G Q Q' k h=>(ho E).1 σ G _ _ (fun x G1 h=>zk7 k h) h
 case lc=>exact fun tg names caps it c elt _ hi hc he E=>zaG fun σ G Q Q' k h=>(hi E) σ G _ _ (fun items stab G1 h=>zml k h) h
 case spc =>
  exact fun i es hs E=>zaG fun σ G Q Q' k h=>(hs E) σ G _ _ (fun ws G1 h=>by
   split at h
   .rename_i f' e;exact g.sx f' (zbj e) ws G1 Q Q' k h
   .exact h.elim) h
 case ispc =>
  exact fun i es hs E σ G R R' k h=>(hs E) σ G _ _ (fun ws G1 h=>by
   split at h
   .rename_i m' e;exact g.ix m' (zbj e) ws G1 R R' k h
   .exact h.elim) h
 case no=>exact ⟨fun E σ G Q Q' k h=>k _ _ h,fun σ G Q Q' k h=>k _ _ h⟩
 case yes=>exact fun e he=>⟨fun E σ G Q Q' k h=>(he E).1 σ G _ _ (fun x G1 h=>zgQ (fun i=>k _ _) h) h,(he XN).2⟩
 case nil=>exact fun E σ G Q Q' k h=>k _ _ h
 case cons=>exact fun e es he hs E σ G Q Q' k h=>(he E).1 σ G _ _ (fun x G1 h=>(hs E) σ G1 _ _ (fun xs G2 h=>k _ _ h) h) h
 case val=>exact fun e he E σ G R R' k h=>(he E).1 σ G _ _ (fun w G1 h=>zeR k h) h
 case blt =>
  exact fun i es hs E σ G R R' k h=>(hs E) σ G _ _ (fun ws G1 h=>by
   split at h
   .rename_i m' e;exact g.it m' (zbj e) ws G1 R R' k h
   .exact h.elim) h
 case nm=>exact fun _=>trivial
 case tt=>exact fun _ _=>trivial
 case tn=>trivial
 case tc=>exact fun _ _ _ _=>trivial
theorem zal (E:XQ) (e:IE):zbB (sem Γ E e).e:=(ziz g e E).1
theorem zft (E:XQ) (e:IE):zea (sem Γ E e).t:=(ziz g e E).2
theorem zcF (E:XQ):∀ es:IEs,zdt (semA Γ E es)
 | .nil=>fun σ G Q Q' k h=>k _ _ h
 | .cons e es=>fun σ G Q Q' k h=>zal g E e σ G _ _ (fun x G1 h=>zcF E es σ G1 _ _ (fun xs G2 h=>k _ _ h) h) h
theorem zqh (E:XQ):∀ o:IO,zq6 (semO Γ E o)
 | .no=>fun σ G Q Q' k h=>k _ _ h
 | .yes e=>fun σ G Q Q' k h=>zal g E e σ G _ _ (fun x G1 h=>zgQ (fun i=>k _ _) h) h
theorem monoC:∀ o:IO,zea (semC Γ o)
 | .no=>fun σ G Q Q' k h=>k _ _ h
 | .yes e=>zft g XN e
theorem zqi (E:XQ):∀ it:II,zq7 (semI Γ E it)
 | .val e=>fun σ G R R' k h=>zal g E e σ G _ _ (fun w G1 h=>zeR k h) h
 | .blt i es=>fun σ G R R' k h=>zcF g E es σ G _ _ (fun ws G1 h=>by
   split at h
   .rename_i m' e;exact g.it m' (zbj e) ws G1 R R' k h
   .exact h.elim) h
 | .spc i es=>fun σ G R R' k h=>zcF g E es σ G _ _ (fun ws G1 h=>by
   split at h
   .rename_i m' e;exact g.ix m' (zbj e) ws G1 R R' k h
   .exact h.elim) h
end L3
set_option Elab.async false
set_option linter.all false
set_option maxRecDepth 100000
set_option maxHeartbeats 4000000
namespace L3
open PySem PySem.Spec PyProof.Rows L2
structure MC where
 sc:Scope
 N:List Str
 own:Bool
 fns:List Str
 gls:List Str
 mts:List Str
 its:List Str
 sxm:List (Scope->Expr->Option (List Expr))
 ixm:List (Scope->Expr->Option (List Expr))
def visB (sc:Scope) (x:Str):Bool:=match sc.names.lookup x with
 |some .local=>true
 |some .cell=>true
 |some .free=>true
 |_=>false
def glbB (sc:Scope) (x:Str):Bool:=sc.names.lookup x==some .globalImplicit&&!(x==("__debug__" : Str))&&!(x==("__name__" : Str))
def zfr:Expr->Bool
 | .Set ..=>false
 |_=>true
def zbo:Expr->Bool
 | .Starred ..=>false
 |_=>true
def zfq:Expr->Bool
 | .Slice ..=>false
 |_=>true
def noLC:Expr->Bool
 | .ListComp ..=>false
 | .SetComp ..=>false
 | .DictComp ..=>false
 |_=>true
def zk8:Expr->Bool
 | .Call (.Name ..) [] [] _=>false
 |_=>true
def relS (sc out:Scope):Scope:={ sc with names:=sc.names.map fun (n,k)=>if (k==.free&&out.kind==.function&&out.names.lookup n==some .cell) then (n,.cell) else (n,k) }
def blkB (out sc:Scope):Bool:=(sc.kind==.function)&&(sc.names.all fun y=>!(y.2==.cell)) &&
 (sc.names.all fun y=>!(y.2==.free) || out.names.lookup y.1==some .cell || out.names.lookup y.1==some .free) &&
 (sc.names.all fun y=>!(y.2==.local) || sc.names.lookup y.1==some .local)
def zgr:List Str->Bool
 | []=>true
 |x::r=>!r.contains x&&zgr r
def locB (M:MC) (x:Str):Bool:=match M.sc.names.lookup x with
 |some .local=>true
 |some .cell=>M.own
 |_=>false
mutual
def tgIx:ITg->List Nat
 | .nm i=>[i]
 | .tup ts=>zlu ts
def zlu:ITgs->List Nat
 | .nil=>[]
 | .cons t ts=>tgIx t++zlu ts
end
mutual
def mG (M:MC):ITg->Expr->Bool
 | .nm i,.Name x _=>M.N[i]?==some x&&locB M x
 | .tup ts,.Tuple es _ _=>mGs M ts es
 |_,_=>false
def mGs (M:MC):ITgs->List Expr->Bool
 | .nil,[]=>true
 | .cons t ts,e::es=>zbo e&&mG M t e&&mGs M ts es
 |_,_=>false
end
mutual
def mE:IE->MC->Expr->Bool
 | .var i=>fun M e=>match e with
  | .Name x _=>M.N[i]?==some x&&visB M.sc x&&!(x==("__debug__" : Str))&&!(x==("__classdict__" : Str))
  |_=>false
 | .con c=>fun M e=>match e with
  | .Constant d _ _=>decide (c=d)
  |_=>false
 | .glb i=>fun M e=>match e with
  | .Name x _=>M.gls[i]?==some x&&glbB M.sc x
  |_=>false
 | .bin op a b=>fun M e=>match e with
  | .BinOp l o r _=>decide (op=o)&&mE a M l&&mE b M r
  |_=>false
 | .neg a=>fun M e=>match e with
  | .UnaryOp .USub l _=>mE a M l
  |_=>false
 | .not a=>fun M e=>match e with
  | .UnaryOp .Not l _=>mE a M l
  |_=>false
 | .cmp op a b=>fun M e=>match e with
  | .Compare l [o] [r] _=>decide (op=o)&&mE a M l&&mE b M r&&zfr r
  |_=>false
 | .chn o1 o2 a b c=>fun M e=>match e with
  | .Compare l [p1,p2] [r,t] _=>decide (o1=p1)&&decide (o2=p2)&&mE a M l&&mE b M r&&mE c M t&&zfr t
  |_=>false
 | .ch3 o1 o2 o3 a b c d=>fun M e=>match e with
  | .Compare l [p1,p2,p3] [r,t,u] _=>decide (o1=p1)&&decide (o2=p2)&&decide (o3=p3)&&mE a M l&&mE b M r&&mE c M t&&mE d M u&&zfr u
  |_=>false
 | .and a b=>fun M e=>match e with
  | .BoolOp .And [l,r] _=>mE a M l&&mE b M r
  | .BoolOp .And (l::r::q::rest) pos=>mE a M l&&mE b M (.BoolOp .And (r::q::rest) pos)
  |_=>false
 | .or a b=>fun M e=>match e with
  | .BoolOp .Or [l,r] _=>mE a M l&&mE b M r
  | .BoolOp .Or (l::r::q::rest) pos=>mE a M l&&mE b M (.BoolOp .Or (r::q::rest) pos)
  |_=>false
 | .ite c a b=>fun M e=>match e with
  | .IfExp t l r _=>mE c M t&&mE a M l&&mE b M r
  |_=>false
 | .ix a i=>fun M e=>match e with
  | .Subscript l r _=>mE a M l&&mE i M r&&zfq r
  |_=>false
 | .sl a lo hi=>fun M e=>match e with
  | .Subscript l (.Slice x y none _) _=>mE a M l&&mO lo M x&&mO hi M y
  |_=>false
 | .tup es=>fun M e=>match e with
  | .Tuple xs _ _=>mA es M xs
  |_=>false
 | .lst es=>fun M e=>match e with
  | .List xs _=>mA es M xs
  |_=>false
 | .dct ks es=>fun M e=>match e with
  | .Dict keys xs _=>keyB ks keys&&mA es M xs&&decide (keys.length=xs.length)&&decide (keys.length<=15)&&!ks.isEmpty
  |_=>false
 | .call f es=>fun M e=>match e with
  | .Call (.Name x _) xs [] _=>M.fns[f]?==some x&&glbB M.sc x&&mA es M xs
  |_=>false
 | .mth m o es=>fun M e=>match e with
  | .Call (.Attribute l x apos) xs [] cpos=>M.mts[m]?==some x&&zk8 l&&(apos.endLine==cpos.line)&&decide (xs.length<25)&&mE o M l&&mA es M xs
  |_=>false
 | .att o f=>fun M e=>match e with
  | .Attribute l x _=>x==f&&zk8 l&&mE o M l
  |_=>false
 | .lc tg names caps it c elt=>fun M e=>match e with
  | .ListComp x [⟨t,ix,ifs,asy⟩] sc _ =>
   let M':MC:={ M with sc:=relS sc M.sc,N:=names++caps.map (fun j=>M.N.getD j Str.empty),own:=false }
   decide (asy=0)&&blkB M.sc sc&&zfr ix&&zgr M'.N&&(caps.all fun j=>decide (j<M.N.length)&&!((relS sc M.sc).names.lookup (M.N.getD j Str.empty)==some .local)) &&
    mI it M ix&&((tgIx tg).all fun i=>decide (i<names.length))&&mG M' tg t&&mC c M' ifs&&mE elt M' x
  |_=>false
 | .spc i es=>fun M e=>noLC e&&(match M.sxm[i]? with
  |some m=>(match m M.sc e with | some xs=>mA es M xs | none=>false)
  |none=>false)
def mO:IO->MC->Option Expr->Bool
 | .no=>fun M e=>match e with | none=>true | _=>false
 | .yes a=>fun M e=>match e with | some x=>mE a M x | _=>false
def mC:IO->MC->List Expr->Bool
 | .no=>fun M e=>match e with | []=>true | _=>false
 | .yes a=>fun M e=>match e with | [x]=>mE a M x | _=>false
def mA:IEs->MC->List Expr->Bool
 | .nil=>fun M e=>match e with | []=>true | _=>false
 | .cons a as=>fun M e=>match e with | x::xs=>zbo x&&mE a M x&&mA as M xs | _=>false
def mI:II->MC->Expr->Bool
 | .val a=>fun M e=>mE a M e
 | .blt i es=>fun M e=>match e with
  | .Call (.Name x _) xs [] _=>M.its[i]?==some x&&glbB M.sc x&&mA es M xs
  |_=>false
 | .spc i es=>fun M e=>match M.ixm[i]? with
  |some m=>(match m M.sc e with | some xs=>mA es M xs | none=>false)
  |none=>false
def keyB:List Str->List (Option Expr)->Bool
 | []=>fun e=>match e with | []=>true | _=>false
 |k::ks=>fun e=>match e with | some (.Constant (.str x) _ _)::es=>k==x&&keyB ks es | _=>false
end
def swapB (M:MC) (y:Str) (py:Pos) (e:Expr):Bool:=match e with
 | .ListComp _ _ sc pos=>M.sc.names.lookup y==some .local&&py.line==pos.line&&!(sc.names.any fun (n,k)=>n==y&&(k==.local || k==.cell))
 |_=>false
mutual
def mS:IS->MC->Stmt->Bool
 | .asg i a=>fun M s=>match s with
  | .Assign [.Name x py] e _=>M.N[i]?==some x&&locB M x&&mE a M e
  |_=>false
 | .asgT ts a=>fun M s=>match s with
  | .Assign [.Tuple es _ _] e _=>noLC e&&zqf e&&mGs M ts es&&mE a M e
  |_=>false
 | .asgI o i a=>fun M s=>match s with
  | .Assign [.Subscript l r _] e _=>noLC e&&zfq r&&mE o M l&&mE i M r&&mE a M e
  |_=>false
 | .asgA o f a=>fun M s=>match s with
  | .Assign [.Attribute l x _] e _=>x==f&&noLC e&&mE o M l&&mE a M e
  |_=>false
 | .ex a=>fun M s=>match s with
  | .Expr e _=>noLC e&&mE a M e
  |_=>false
 | .ret a=>fun M s=>match s with
  | .Return (some e) _=>mE a M e
  |_=>false
 | .retN=>fun M s=>match s with | .Return none _=>true | _=>false
 | .pass=>fun M s=>match s with | .Pass _=>true | _=>false
 | .brk=>fun M s=>match s with | .Break _=>true | _=>false
 | .cnt=>fun M s=>match s with | .Continue _=>true | _=>false
 | .ite c a b=>fun M s=>match s with
  | .If t x y _=>mE c M t&&mSs a M x&&mSs b M y
  |_=>false
 | .whl c b=>fun M s=>match s with
  | .While t x [] _=>mE c M t&&mSs b M x
  |_=>false
 | .for tg it b=>fun M s=>match s with
  | .For t x y [] _=>zfr x&&mG M tg t&&mI it M x&&mSs b M y
  |_=>false
 | .dead=>fun M s=>true
def mSs:ISs->MC->List Stmt->Bool
 | .nil=>fun M s=>match s with | []=>true | _=>false
 | .cons a as=>fun M s=>match s with | x::xs=>mS a M x&&mSs as M xs | _=>false
def zqf:Expr->Bool
 | .Tuple ..=>false
 |_=>true
end
theorem bd2 {a b:Bool} (h:(a&&b)=true):a=true/\b=true:=(Bool.and_eq_true a b).mp h
theorem bd3 {a b c:Bool} (h:(a&&b&&c)=true):(a=true/\b=true)/\c=true:=⟨bd2 (bd2 h).1,(bd2 h).2⟩
theorem bd4 {a b c d:Bool} (h:(a&&b&&c&&d)=true):((a=true/\b=true)/\c=true)/\d=true:=⟨bd3 (bd2 h).1,(bd2 h).2⟩
theorem bd5 {a b c d e:Bool} (h:(a&&b&&c&&d&&e)=true):(((a=true/\b=true)/\c=true)/\d=true)/\e=true:=⟨bd4 (bd2 h).1,(bd2 h).2⟩
theorem bd6 {a b c d e f:Bool} (h:(a&&b&&c&&d&&e&&f)=true):((((a=true/\b=true)/\c=true)/\d=true)/\e=true)/\f=true:=⟨bd5 (bd2 h).1,(bd2 h).2⟩
theorem bd7 {a b c d e f g:Bool} (h:(a&&b&&c&&d&&e&&f&&g)=true):(((((a=true/\b=true)/\c=true)/\d=true)/\e=true)/\f=true)/\g=true:=⟨bd6 (bd2 h).1,(bd2 h).2⟩
theorem bd8 {a b c d e f g k:Bool} (h:(a&&b&&c&&d&&e&&f&&g&&k)=true):((((((a=true/\b=true)/\c=true)/\d=true)/\e=true)/\f=true)/\g=true)/\k=true:=⟨bd7 (bd2 h).1,(bd2 h).2⟩
theorem bd9 {a b c d e f g k l:Bool} (h:(a&&b&&c&&d&&e&&f&&g&&k&&l)=true):(((((((a=true/\b=true)/\c=true)/\d=true)/\e=true)/\f=true)/\g=true)/\k=true)/\l=true:=⟨bd8 (bd2 h).1,(bd2 h).2⟩
theorem bd10 {a b c d e f g k l m:Bool} (h:(a&&b&&c&&d&&e&&f&&g&&k&&l&&m)=true):((((((((a=true/\b=true)/\c=true)/\d=true)/\e=true)/\f=true)/\g=true)/\k=true)/\l=true)/\m=true:=⟨bd9 (bd2 h).1,(bd2 h).2⟩
end L3
set_option Elab.async false
set_option linter.all false
set_option maxRecDepth 100000
set_option maxHeartbeats 4000000
namespace L3
open PySem PySem.Spec PyProof.Rows L2 PySem.SeqAt
structure Par where
 prog:Program
 w:World
 K:Frg
 mg:Str->Option Value
 base:Heap
 A:Around
structure Fits (p:Par) (X:Cx):Prop where
 prog:X.prog=p.prog
 w:X.w=p.w
 K:X.K=p.K
 mg:X.mg=p.mg
 base:X.base=p.base
 A:X.A=p.A
 calm:X.calm=true
 xe:X.xe=fun _ _=>False
structure ItIs (K:Frg) (J:It) (H1:Hp) (ws:List W) (stab:Hw->Prop):Prop where
 go:∀ i H G,Grow K H1 H->Abs K H G->stab G->i<ws.length->J.go i H
 yld:∀ i H G x H',Grow K H1 H->Abs K H G->stab G->i<ws.length->J.yld i H x H'->∃ w,ws[i]?=some w/\Grow K H H'/\Rep K H' w x/\Abs K H' G
 stop:∀ i H G,Grow K H1 H->Abs K H G->stab G->ws.length<=i->J.stop i H
def lowI (K:Frg) (t:I3):TI:=fun τ H R=>∃ σ G,zaK K H σ τ/\Abs K H G/\t σ G fun ws stab G1=>∀ J H1,Grow K H H1->Abs K H1 G1->ItIs K J H1 ws stab->R J H1
def zjx (X:Cx):List Expr->List E3->Prop
 | [],[]=>True
 |x::xs,e::es=>zbB e/\PE X x (lowE X.K e)/\zjx X xs es
 |_,_=>False
structure Good (Γ:Ctx3) (p:Par):Prop where
 mono:TabMono Γ
 un:p.A.units+200<cLine
 fn:∀ f∈Γ.fn,∀ X,Fits p X->Gl X f.nm->∀ (args:List Expr) (t:A3) (q pos:Pos),zdt t->args.all zbo=true->PA X args (lowA X.K t)->(args=[]->∀ σ G Q,t σ G Q->Q [] G)->(f.nm==("__debug__" : Str))=false->f.nm ≠ "__name__" ->
  PE X (.Call (.Name f.nm q) args [] pos) (lowE X.K fun σ G Q=>t σ G fun ws G1=>f.sp ws G1 Q XN)
 gl:∀ g∈Γ.gl,∀ X,Fits p X->Gl X g.1->∀ q:Pos,(g.1==("__debug__" : Str))=false->g.1 ≠ "__name__" -> PE X (.Name g.1 q) (lowE X.K fun _ G Q=>Q g.2 G)
 mt:∀ m∈Γ.mt,∀ X,Fits p X->∀ (o:Expr) (args:List Expr) (to:E3) (t:A3) (apos cpos:Pos),zbB to->zdt t->zk8 o=true->(apos.endLine==cpos.line)=true->args.length<25->args.all zbo=true ->
  PE X o (lowE X.K to)->PA X args (lowA X.K t)->(args=[]->∀ σ G Q,t σ G Q->Q [] G)->PE X (.Call (.Attribute o m.nm apos) args [] cpos) (lowE X.K fun σ G Q=>to σ G fun x G1=>tyW G1 x m.T/\t σ G1 fun ws G2=>m.sp x ws G2 Q)
 it:∀ i∈Γ.it,∀ X,Fits p X->Gl X i.nm->∀ (tg:Expr) (args:List Expr) (t:A3) (q pos:Pos),zdt t->args.all zbo=true->PA X args (lowA X.K t)->(args=[]->∀ σ G Q,t σ G Q->Q [] G)->(i.nm==("__debug__" : Str))=false->i.nm ≠ "__name__" ->
  PI X tg (.Call (.Name i.nm q) args [] pos) (lowI X.K fun σ G R=>t σ G fun ws G1=>i.sp ws G1 R)
 cl:∀ c∈Γ.cl,Cls p.K c.1/\∀ f∈c.2,zcu p.K c.1 f
 sx:∀ k∈Γ.sx,∀ X,Fits p X->∀ (e:Expr) (xs:List Expr) (es:List E3),k.m X.env.scope e=some xs->zjx X xs es->xs.all zbo=true->PA X xs (lowA X.K (seqA es)) ->
  PE X e (lowE X.K fun σ G Q=>seqA es σ G fun ws G1=>k.sp ws G1 Q)/\(∀ whole,isTrue e X.env whole=(do let v ← whole;standAt e.pos;holding [v] (truthy v)))/\∀ op vs pos,e≠.BoolOp op vs pos
 ix:∀ k∈Γ.ix,∀ X,Fits p X->∀ (tg e:Expr) (xs:List Expr) (es:List E3),k.m X.env.scope e=some xs->zjx X xs es->xs.all zbo=true->PA X xs (lowA X.K (seqA es)) ->
  PI X tg e (lowI X.K fun σ G R=>seqA es σ G fun ws G1=>k.sp ws G1 R)
structure Lk (Γ:Ctx3) (M:MC) (p:Par) (X:Cx):Prop where
 fits:Fits p X
 N:X.N=M.N
 sc:X.env.scope=M.sc
 nd:M.N.Nodup
 own:M.own=true->∀ x,X.fn x=true
 kind:M.sc.kind=.function
 fns:Γ.fn.map (·.nm)=M.fns
 gls:Γ.gl.map (·.1)=M.gls
 mts:Γ.mt.map (·.nm)=M.mts
 its:Γ.it.map (·.nm)=M.its
 sxs:Γ.sx.map (·.m)=M.sxm
 ixs:Γ.ix.map (·.m)=M.ixm
theorem zbF {e:Expr} {es:List Expr} {env:Env} (h:zbo e=true):starEach (e::es) env=(false,eval e env)::starEach es env:=by
 cases e <;> first | rfl | exact absurd h zzN
theorem zdh {o:Expr} {f:Str} {env:Env} {t:Sem Value} (h:zk8 o=true):attributeBase o f env t=t:=by
 unfold attributeBase
 split
 .exact absurd h zzN
 .rfl
theorem zgS {e:Expr} {env:Env} (h:zfr e=true):∀ x,foldedSetIterable e env x=pure x:=fun x=>by
 cases e <;> first | rfl | exact absurd h zzN
theorem zck {op:CmpOp} {e:Expr} (h:zfr e=true):behindInMarks op e=false:=by
 cases e <;> first | rfl | exact absurd h zzN
theorem zlU {e:Expr} (h:zfq e=true):zlj e:=fun o i=>by
 cases e <;> first | rfl | exact absurd h zzN
theorem zcP {e:Expr} {t:Option Expr} {n:Nat} {env:Env} (h:noLC e=true):swapsWith e t n env=pure false:=by
 cases e <;> first | rfl | exact absurd h zzN
theorem zpb {sc:Scope} {x:Str} (h:visB sc x=true):Vis sc x:=by
 unfold visB at h
 split at h
 .rename_i e;exact .inl e
 .rename_i e;exact .inr (.inl e)
 .rename_i e;exact .inr (.inr e)
 .exact absurd h zzN
theorem zkM {X:Cx} {sc:Scope} {x:Str} (e:X.env.scope=sc) (h:glbB sc x=true):Gl X x/\(x==("__debug__" : Str))=false/\x ≠ "__name__" := by
 unfold glbB at h
 simp only [Bool.and_eq_true,Bool.not_eq_true'] at h
 refine ⟨?_,h.1.2,fun z=>?_⟩
 .show X.env.scope.names.lookup x=_
  rw [e];exact eq_of_beq h.1.1
 .subst z;have:=h.2;simp at this
theorem zbP {α:Type} [BEq α] [LawfulBEq α] {a:Option α} {b:α} (h:(a==some b)=true):a=some b:=eq_of_beq h
theorem zdd {α β:Type} {f:α->β} {l:List α} {i:Nat} {y:β} (h:(l.map f)[i]?=some y):∃ x,l[i]?=some x/\f x=y:=by
 rw [List.getElem?_map] at h
 cases e:l[i]? with
 |none=>rw [e] at h;cases h
 |some x=>rw [e] at h;exact ⟨x,rfl,Option.some.inj h⟩
section
variable {X : Cx}
theorem zlr {K:Frg} {e:E3} (m:zbB e) {τ:L2.St} {H:Hp} {Q:Bool->Hp->Prop} (h:lowT K (truE e) τ H Q):lowE K e τ H (fun x H'=>∃ k,TruV K x H' k/\Q k H'):=by
 obtain ⟨σ,G,hs,ha,h⟩:=h
 refine za5 m hs ha h fun w G1 v H1 gr _ rp ab q=>?_
 split at q
 .rename_i b hb;exact ⟨b,znA rp ab hb,q H1 gr ab⟩
 .exact q.elim
theorem pt_of {x:Expr} {e:E3} (m:zbB e) (h:PE X x (lowE X.K e)) (he:∀ whole,isTrue x X.env whole=(do let v ← whole;standAt x.pos;holding [v] (truthy v))):PT X x (lowT X.K (truE e)) :=
 (zlL h he).imp fun σ H Q q=>zlr m q
theorem zhT {K:Frg} {e:E3} (m:zbB e) {τ:L2.St} {H:Hp} {Q:Bool->Hp->Prop} (h:lowT K (blE e) τ H Q):lowE K e τ H (fun x H'=>∃ k,x=.bl k/\Q k H'):=by
 obtain ⟨σ,G,hs,ha,h⟩:=h
 refine za5 m hs ha h fun w G1 v H1 gr _ rp ab q=>?_
 cases w with
 |bl b=>cases rp;exact ⟨b,rfl,q H1 gr ab⟩
 |_=>exact q.elim
theorem zir {K:Frg} {ea eb:E3} {r:R3} (ma:zbB ea) (mb:zbB eb) (mr:zhc r) {τ:L2.St} {H:Hp} {Q:VK} (h:lowE K (fun σ G Q=>ea σ G fun x G1=>eb σ G1 fun y G2=>r x y G2 Q) τ H Q) :
  tOp (low2 K r) (lowE K ea) (lowE K eb) τ H Q:=by
 obtain ⟨σ,G,hs,ha,h⟩:=h
 refine za5 ma hs ha h fun x G1 v H1 g1 hs1 rx a1 h1=>?_
 refine za5 mb hs1 a1 h1 fun y G2 u H2 g2 hs2 ry a2 h2=>?_
 exact ⟨x,y,G2,rx.mono g2,ry,a2,mr x y G2 _ _ (fun w G' q v' H' g'=>q v' H' ((g1.trans g2).trans g')) h2⟩
def Its (x:Str):It:=⟨fun i _=>i<x.cps.size,fun i H v H'=>H'=H/\∃ c,x.cps[i]?=some c/\v=.str ⟨#[c]⟩,fun i _=>x.cps.size<=i⟩
theorem zlp {P:Program} {w:World} {K:Frg} {tg:Expr} (T:String) (hT:T = "str_ascii_iterator" \/ T = "str_iterator") (x:Str) (t:Tok) (it:Addr):Turn P w K tg (Its x) [it] it (fun i h=>h.IsStrIter it T x t i) where
 mem:=by simp
 obj:=fun i h st b hb=>by
  have e:b=it:=by simpa using hb
  subst e
  obtain ⟨o,e,c,d⟩:=st
  exact ⟨o,e,fun v z=>by rw [d] at z;cases z⟩
 keep:=fun i h h' st k=>let ⟨o,e,r⟩:=st;⟨o,k it (by simp) o e,r⟩
 item:=by
  intro X hP hw hK hc i pins s σ H E I hf st hg
  subst hP hw hK
  obtain ⟨f0,f1,f2,f3,f4,f5⟩:=hf it (by simp)
  have hi:i<x.cps.size:=hg
  have hx:x.cps[i]?=some x.cps[i]:=by simp [hi]
  have fin:∀ h':Heap,h'.IsStrIter it T x t (i+1)->Heap.SameBut it s.heap h'->∃ u,some (Value.str ⟨#[x.cps[i]]⟩ s.toks)=some u /\
    wpAny (model X.prog X.w) X.A (letOwnedTupleGo tg (.ref it) u) (fun _ s2=>∃ v H',Inv X pins σ H' s2/\RelV v u/\(Its x).yld i H v H'/\s2.heap.IsStrIter it T x t (i+1)/\∀ b∈[it],H' b=none) E { s with heap:=h',toks:=s.toks+1 }:=fun h' st' sb=>by
   have I1:Inv X pins σ H { s with heap:=h',toks:=s.toks+1 }:=I.turned (t':=s.toks+1) (fun b o hb e=>(sb.2 b hb).trans e) f0 f1 f3 f4 f5
   obtain ⟨o,e,c,d⟩:=id st'
   exact ⟨_,rfl,zmE (s:={ s with heap:=h',toks:=s.toks+1 }) e c d (by rcases hT with rfl | rfl <;> decide) ⟨.str ⟨#[x.cps[i]]⟩,H,I1,⟨_,rfl⟩,⟨rfl,_,hx,rfl⟩,st',fun b hb=>(hf b hb).1⟩⟩
  rcases hT with rfl | rfl
  .exact wpAny_pyNext_ascii_item st hx fin
  .exact wpAny_pyNext_wide_item st hx fin
 done:=by
  intro X hP hw hK hc i pins s σ H E I hf st hg
  subst hP hw hK
  obtain ⟨f0,f1,f2,f3,f4,f5⟩:=hf it (by simp)
  have hx:x.cps[i]?=none:=by have h:x.cps.size<=i:=hg;simp [h]
  rcases hT with rfl | rfl
  .exact wpAny_pyNext_ascii_end (I.ok.hd hc) st hx fun h' eb=>⟨rfl,I.turned (t':=s.toks) (fun b o hb e=>eb b o hb e) f0 f1 f3 f4 f5⟩
  .exact wpAny_pyNext_wide_end (I.ok.hd hc) st hx fun h' eb=>⟨rfl,I.turned (t':=s.toks) (fun b o hb e=>eb b o hb e) f0 f1 f3 f4 f5⟩
 self:=fun _ _ _ _ _ st h=>by
  rcases hT with rfl | rfl
  .exact wpAny_pyIter_striter_ascii st h
  .exact wpAny_pyIter_striter_wide st h
theorem zpT {tg l:Expr} {tl:TE} (hl:PE X l tl):PI X tg l (fun σ H R=>tl σ H fun x H1=>(∃ t,x=.str t/\R (Its t) H1)\/∃ a,x=.ref a/\(((∃ xs,SqL X.K H1 a xs)/\R (Itl X.K a) H1)\/((∃ xs,SqT X.K H1 a xs)/\R (Itt X.K a) H1))):=by
 intro pins s σ H R I h
 refine thn (hl pins s σ H _ I h) fun v s1 ⟨x,H1,I1,r1,q1⟩=>?_
 rcases q1 with ⟨tx,e,q⟩ | q1
 .subst e
  obtain ⟨tk,rfl⟩:=r1
  have fin:∀ T,(T = "str_ascii_iterator" \/ T = "str_iterator")->∀ o:Obj,o.isFreed=false->o.cls=.type T->o.data=.fields #[.str tx tk,.int 0 0]->PIE X pins σ tg R (.ref s1.heap.objs.size) { s1 with heap:=s1.heap.push o }   := fun T hT o hz hc hd=>by
   refine ⟨s1.heap.objs.size,[s1.heap.objs.size],_,_,H1,rfl,I1.kept (t':=s1.toks) fun b o e=>Heap.get?_push_of_some _ e,zlp T hT tx tk _,⟨_,Heap.get?_push_size _ hz,hc,hd⟩,fun b hb=>?_,q⟩
   have e:b=s1.heap.objs.size:=by simpa using hb
   subst e
   exact I1.fpOk (Nat.le_refl _) (I1.hok.fresh (Nat.le_refl _))
  cases hasc:tx.cps.all (· < 128)
  .exact wpAny_pyIter_wide hasc (fin _ (.inr rfl) _ rfl rfl rfl)
  .exact wpAny_pyIter_ascii hasc (fin _ (.inl rfl) _ rfl rfl rfl)
 obtain ⟨a,e,q1⟩:=q1
 subst e
 cases r1
 rcases q1 with ⟨⟨xs,hq⟩,q⟩ | ⟨⟨xs,hq⟩,q⟩
 .obtain ⟨its,rv,p,hz⟩:=I1.list hq
  refine wpAny_pyIter_list p.isList ?_
  refine ⟨s1.heap.objs.size,[s1.heap.objs.size],_,_,H1,rfl,I1.kept (t':=s1.toks) fun b o e=>Heap.get?_push_of_some _ e,zjE a _,⟨_,Heap.get?_push_size _ rfl,rfl,rfl⟩,fun b hb=>?_,q⟩
  have e:b=s1.heap.objs.size:=by simpa using hb
  subst e
  exact I1.fpOk (Nat.le_refl _) (I1.hok.fresh (Nat.le_refl _))
 .obtain ⟨its,rv,p,hz⟩:=I1.tuple hq
  refine wpAny_pyIter_tuple (show s1.heap.IsTuple a its.toArray from p) ?_
  refine ⟨s1.heap.objs.size,[s1.heap.objs.size],_,_,H1,rfl,I1.kept (t':=s1.toks) fun b o e=>Heap.get?_push_of_some _ e,ziS a _,⟨_,Heap.get?_push_size _ rfl,rfl,rfl⟩,fun b hb=>?_,q⟩
  have e:b=s1.heap.objs.size:=by simpa using hb
  subst e
  exact I1.fpOk (Nat.le_refl _) (I1.hok.fresh (Nat.le_refl _))
theorem zqF {K:Frg} {x:Str} {H1:Hp}:ItIs K (Its x) H1 (sgs x) (fun _=>True) where
 go:=fun i H G _ ab st hi=>by
  have h:i<(sgs x).length:=hi
  show i<x.cps.size
  simpa [sgs] using h
 yld:=fun i H G v H' _ ab st hi y=>by
  obtain ⟨rfl,c,e,rfl⟩:=y
  refine ⟨.str ⟨#[c]⟩,?_,.refl,rfl,ab⟩
  simp [sgs,e]
 stop:=fun i H G _ ab st hi=>by
  have h:(sgs x).length<=i:=hi
  show x.cps.size<=i
  simpa [sgs] using h
theorem zqH {K:Frg} {a:Addr} {H1:Hp} {ws:List W}:ItIs K (Itl K a) H1 ws (fun G=>zav G a=some ws) where
 go:=fun i H G _ ab st hi=>by
  obtain ⟨vs,sq,rs⟩:=ab.seq st
  have hl:=rs.length
  obtain ⟨v,e⟩:∃ v,vs[i]?=some v:=⟨vs[i]'(by omega),List.getElem?_eq_getElem _⟩
  exact ⟨vs,v,sq,e⟩
 yld:=fun i H G x H' _ ab st hi y=>by
  obtain ⟨vs,sq,rs⟩:=ab.seq st
  obtain ⟨e,y⟩:=y
  subst e
  obtain ⟨w,ew,rp⟩:=rs.get' (y vs sq)
  exact ⟨w,ew,.refl,rp,ab⟩
 stop:=fun i H G _ ab st hi=>by
  obtain ⟨vs,sq,rs⟩:=ab.seq st
  exact ⟨vs,sq,by rw [rs.length];exact hi⟩
theorem zqE {K:Frg} {a:Addr} {H1:Hp} {ws:List W} {vs:List V} (sq:SqT K H1 a vs) (rs:Reps K H1 ws vs):ItIs K (Itt K a) H1 ws (fun _=>True) where
 go:=fun i H G g ab st hi=>by
  have hl:=rs.length
  obtain ⟨v,e⟩:∃ v,vs[i]?=some v:=⟨vs[i]'(by omega),List.getElem?_eq_getElem _⟩
  exact ⟨vs,v,g.1 _ _ sq,e⟩
 yld:=fun i H G x H' g ab st hi y=>by
  obtain ⟨e,y⟩:=y
  subst e
  obtain ⟨w,ew,rp⟩:=(rs.mono g).get' (y vs (g.1 _ _ sq))
  exact ⟨w,ew,.refl,rp,ab⟩
 stop:=fun i H G g ab st hi=>⟨vs,g.1 _ _ sq,by rw [rs.length];exact hi⟩
theorem zpU {tg x:Expr} {e:E3} (m:zbB e) (h:PE X x (lowE X.K e)):PI X tg x (lowI X.K fun σ G R=>e σ G fun w G1=>zbc w G1 R):=by
 intro pins s σ H R I q
 refine zpT h pins s σ H R I ?_
 obtain ⟨σ3,G,hs,ha,q⟩:=q
 refine za5 m hs ha q fun w G1 v H1 gr hs1 rp ab q=>?_
 cases w with
 |tup ws =>
  obtain ⟨a,vs,rfl,sq,rs⟩:=rp
  exact .inr ⟨a,rfl,.inr ⟨⟨vs,sq⟩,q _ H1 gr ab (zqE sq rs)⟩⟩
 |ref p =>
  cases rp
  simp only [zbc] at q
  split at q
  .rename_i ws e
   obtain ⟨vs,sq,rs⟩:=ab.seq e
   exact .inr ⟨p,rfl,.inl ⟨⟨vs,sq⟩,q _ H1 gr ab zqH⟩⟩
  .exact q.elim
 |str t =>
  cases rp
  exact .inl ⟨t,rfl,q _ H1 gr ab zqF⟩
 |_=>exact q.elim
def lowG (K:Frg) (t:G3):TG:=fun v τ H Q=>∃ w σ G,Rep K H w v/\zaK K H σ τ/\Abs K H G/\t w σ G fun σ' G'=>∀ τ' H',Grow K H H'->zaK K H' σ' τ'->Abs K H' G'->Q τ' H'
def lowGs (K:Frg) (t:Gs3):TGs:=fun vs τ H Q=>∃ ws σ G,Reps K H ws vs/\zaK K H σ τ/\Abs K H G/\t ws σ G fun σ' G'=>∀ τ' H',Grow K H H'->zaK K H' σ' τ'->Abs K H' G'->Q τ' H'
theorem _root_.L2.PG.imp {tg:Expr} {t t':TG} (h:PG X tg t) (k:∀ v σ H Q,t' v σ H Q->t v σ H Q):PG X tg t':=fun pins s σ H v u Q I r q=>h pins s σ H v u Q I r (k v σ H Q q)
theorem _root_.L2.PGs.imp {tg:List Expr} {t t':TGs} (h:PGs X tg t) (k:∀ v σ H Q,t' v σ H Q->t v σ H Q):PGs X tg t':=fun pins s σ H v u Q I r q=>h pins s σ H v u Q I r (k v σ H Q q)
theorem zfM {e:Expr} {es:List Expr} {env:Env} (h:zbo e=true):assignEach (e::es) env=(false,assign e env)::assignEach es env:=by
 cases e <;> first | rfl | exact absurd h zzN
end
def MonoG (t:G3):Prop:=∀ w σ G (Q Q':St3->Hw->Prop),(∀ a b,Q a b->Q' a b)->t w σ G Q->t w σ G Q'
def zq8 (t:Gs3):Prop:=∀ w σ G (Q Q':St3->Hw->Prop),(∀ a b,Q a b->Q' a b)->t w σ G Q->t w σ G Q'
mutual
theorem zgD:∀ t:ITg,MonoG (semG t)
 | .nm i=>fun w σ G Q Q' k h=>k _ _ h
 | .tup ts=>fun w σ G Q Q' k h=>by
  cases w with
  |tup ws=>exact zgC ts ws σ G Q Q' k h
  |_=>exact h.elim
theorem zgC:∀ ts:ITgs,zq8 (zab ts)
 | .nil=>fun w σ G Q Q' k h=>by
  cases w with
  |nil=>exact k _ _ h
  |cons _ _=>exact h.elim
 | .cons t ts=>fun w σ G Q Q' k h=>by
  cases w with
  |nil=>exact h.elim
  |cons x r=>exact zgD t x σ G _ _ (fun σ' G' h=>zgC ts r σ' G' Q Q' k h) h
end
theorem znl {Γ:Ctx3} {M:MC} {p:Par} {X:Cx} (L:Lk Γ M p X) {x:Str} (h:locB M x=true):Loc X.env.scope x/\(X.fn x=true\/X.env.scope.names.lookup x=some .local):=by
 unfold locB at h
 rw [L.sc]
 split at h
 .rename_i e;exact ⟨.inl e,.inr e⟩
 .rename_i e;exact ⟨.inr e,.inl (L.own h x)⟩
 .exact absurd h zzN
mutual
theorem sndG {Γ:Ctx3} {M:MC} {p:Par} {X:Cx} (L:Lk Γ M p X):∀ (t:ITg) (x:Expr),mG M t x=true->PG X x (lowG X.K (semG t))
  | .nm i,x,h=>by
   cases x with
   |Name y q =>
    replace h:=bd2 h
    have lo:=znl L h.2
    refine (zn2 (i:=i) (L.N▸L.nd) (by rw [L.N];exact zbP h.1) lo.1 lo.2).imp fun v σ H Q q=>?_
    obtain ⟨w,σ3,G,rp,hs,ab,q⟩:=q
    exact q _ _ .refl (hs.set rp i) ab
   |_=>exact absurd h zzN
  | .tup ts,x,h=>by
   cases x with
   |Tuple es k q =>
    skip
    obtain ⟨ps,hn,hst⟩:=zpv L ts es h
    refine (zpV (n:=es.length) L.fits.calm ps hn hst).imp fun v σ H Q q=>?_
    obtain ⟨w,σ3,G,rp,hs,ab,q⟩:=q
    cases w with
    |tup ws =>
      obtain ⟨a,vs,rfl,sq,rs⟩:=rp
      refine ⟨a,vs,rfl,sq,?_,ws,σ3,G,rs,hs,ab,q⟩
      rw [rs.length]
      exact zqo ts es ws σ3 G _ h q
    |_=>exact q.elim
   |_=>exact absurd h zzN
theorem zpv {Γ:Ctx3} {M:MC} {p:Par} {X:Cx} (L:Lk Γ M p X):∀ (ts:ITgs) (xs:List Expr),mGs M ts xs=true->PGs X xs (lowGs X.K (zab ts))/\(assignEach xs X.env).length=xs.length/\(assignEach xs X.env).findIdx? (·.1)=none
 | .nil,[],_=>⟨(zn1).imp fun vs σ H Q q=>by
   obtain ⟨ws,σ3,G,rs,hs,ab,q⟩:=q
   cases ws with
   |nil=>exact ⟨rs,q _ _ .refl hs ab⟩
   |cons _ _=>exact q.elim,rfl,rfl⟩
 | .cons t ts,x::xs,h=>by
  simp only [mGs,Bool.and_eq_true] at h
  obtain ⟨ps,hn,hst⟩:=zpv L ts xs h.2
  have es:=zfM (es:=xs) (env:=X.env) h.1.1
  refine ⟨(zlX (sndG L t x h.1.2) ps (by rw [es];rfl)).imp fun vs σ H Q q=>?_,by rw [es,List.length_cons,List.length_cons,hn],?_⟩
  .obtain ⟨ws,σ3,G,rs,hs,ab,q⟩:=q
   cases ws with
   |nil=>exact q.elim
   |cons w r =>
    obtain ⟨v,vr,e,rp,rr⟩:=rs
    refine ⟨v,vr,e,w,σ3,G,rp,hs,ab,zgD t w σ3 G _ _ (fun σ' G' q τ' H' g' hs' ab'=>?_) q⟩
    exact ⟨r,σ',G',rr.mono g',hs',ab',zgC ts r σ' G' _ _ (fun σ2 G2 q τ2 H2 g2=>q τ2 H2 (g'.trans g2)) q⟩
  .rw [es,List.findIdx?_cons]
   simp only [zzB,if_false,hst]
   rfl
theorem zqo {M:MC}:∀ (ts:ITgs) (xs:List Expr) (ws:List W) (σ:St3) (G:Hw) (Q:St3->Hw->Prop),mGs M ts xs=true->zab ts ws σ G Q->ws.length=xs.length
 | .nil,[],ws,σ,G,Q,_,q=>by
  cases ws with
  |nil=>rfl
  |cons _ _=>exact q.elim
 | .cons t ts,x::xs,ws,σ,G,Q,h,q=>by
  simp only [mGs,Bool.and_eq_true] at h
  cases ws with
  |nil=>exact q.elim
  |cons w r =>
   have:∃ σ' G',zab ts r σ' G' Q:=exG t w σ G _ q
   obtain ⟨σ',G',q'⟩:=this
   rw [List.length_cons,List.length_cons,zqo ts xs r σ' G' Q h.2 q']
theorem exG:∀ (t:ITg) (w:W) (σ:St3) (G:Hw) (Q:St3->Hw->Prop),semG t w σ G Q->∃ σ' G',Q σ' G'
 | .nm i,w,σ,G,Q,q=>⟨_,_,q⟩
 | .tup ts,w,σ,G,Q,q=>by
  cases w with
  |tup ws=>exact exGs ts ws σ G Q q
  |_=>exact q.elim
theorem exGs:∀ (ts:ITgs) (ws:List W) (σ:St3) (G:Hw) (Q:St3->Hw->Prop),zab ts ws σ G Q->∃ σ' G',Q σ' G'
 | .nil,ws,σ,G,Q,q=>by
  cases ws with
  |nil=>exact ⟨_,_,q⟩
  |cons _ _=>exact q.elim
 | .cons t ts,ws,σ,G,Q,q=>by
  cases ws with
  |nil=>exact q.elim
  |cons w r =>
   obtain ⟨σ',G',q'⟩:=exG t w σ G _ q
   exact exGs ts r σ' G' Q q'
end
end L3
set_option Elab.async false
set_option linter.all false
set_option maxRecDepth 100000
set_option maxHeartbeats 4000000
namespace L3
open PySem PySem.Spec PyProof.Rows L2 PySem.SeqAt
def lowO (K:Frg) (t:St3->Hw->(Option Int->Hw->Prop)->Prop):TO:=fun τ H Q=>∃ σ G,zaK K H σ τ/\Abs K H G/\t σ G fun o G'=>∀ H',Grow K H H'->Abs K H' G'->Q o H'
theorem _root_.L2.PO.imp {X:Cx} {e:Option Expr} {t t':TO} (h:PO X e t) (k:∀ σ H Q,t' σ H Q->t σ H Q):PO X e t':=fun pins s σ H Q I q=>h pins s σ H Q I (k σ H Q q)
theorem _root_.L2.PTs.imp {X:Cx} {e:List Expr} {t t':TT} (h:PTs X e t) (k:∀ σ H Q,t' σ H Q->t σ H Q):PTs X e t':=fun pins s σ H Q I q=>h pins s σ H Q I (k σ H Q q)
theorem _root_.L2.PI.imp {X:Cx} {tg x:Expr} {t t':TI} (h:PI X tg x t) (k:∀ σ H R,t' σ H R->t σ H R):PI X tg x t':=fun pins s σ H R I q=>h pins s σ H R I (k σ H R q)
def capV (k:Nat) (caps:List Nat) (σ:L2.St):L2.St:=List.replicate k none++caps.map fun j=>(σ[j]?).join
theorem zhS {α:Type} {k:Nat} {caps:List Nat} {σ:List (Option α)} {i:Nat} {v:α} (h:(List.replicate k none++caps.map fun j=>(σ[j]?).join)[i]?=some (some v)):k<=i/\∃ j,caps[i - k]?=some j/\σ[j]?=some (some v):=by
 by_cases hi:i<k
 .rw [List.getElem?_append_left (by simpa using hi),List.getElem?_replicate,if_pos hi] at h
  cases h
 .rw [List.getElem?_append_right (by simpa using hi),List.length_replicate,List.getElem?_map] at h
  refine ⟨by omega,?_⟩
  cases e:caps[i - k]? with
  |none=>rw [e] at h;cases h
  |some j =>
   rw [e] at h
   have h':(σ[j]?).join=some v:=Option.some.inj h
   refine ⟨j,rfl,?_⟩
   cases q:σ[j]? with
   |none=>rw [q] at h';cases h'
   |some o=>rw [q] at h';exact congrArg some h'
theorem zo3 {K:Frg} {H:Hp} {σ:St3} {τ:L2.St} (h:zaK K H σ τ) (k:Nat) (caps:List Nat):zaK K H (capS k caps σ) (capV k caps τ):=by
 refine ⟨by simp [capS,capV],fun i w e=>?_⟩
 obtain ⟨hk,j,ej,es⟩:=zhS e
 obtain ⟨v,ev,rp⟩:=h.2 j w es
 refine ⟨v,?_,rp⟩
 unfold capV
 rw [List.getElem?_append_right (by simpa using hk),List.length_replicate,List.getElem?_map,ej]
 simp [ev]
theorem zis:∀ {l:List Str},zgr l=true->l.Nodup
 | [],_=>List.nodup_nil
 |x::r,h=>by
  simp only [zgr,Bool.and_eq_true,Bool.not_eq_true'] at h
  refine List.nodup_cons.mpr ⟨fun hm=>?_,zis h.2⟩
  have:=List.elem_eq_true_of_mem hm
  rw [List.contains_eq_mem] at h
  simp [hm] at h
theorem zj8 {X:Cx} {sc out:Scope} (e:X.env.scope=out):relabel sc X.env=relS sc out:=by
 unfold relabel relS Env.kindOf
 rw [e]
theorem znt {X:Cx} {sc out:Scope} (e:X.env.scope=out) (h:blkB out sc=true):BlkSc X sc:=by
 unfold blkB at h
 simp only [Bool.and_eq_true,List.all_eq_true] at h
 obtain ⟨⟨⟨h1,h2⟩,h3⟩,h4⟩:=h
 refine ⟨eq_of_beq h1,fun y hy z=>?_,fun x hx=>?_,fun y hy z=>?_⟩
 .have:=h2 y hy;rw [z] at this;simp at this
 .have:=h3 _ hx
  simp only [beq_self_eq_true,Bool.not_true,Bool.false_or,Bool.or_eq_true,beq_iff_eq] at this
  show X.env.scope.names.lookup x=_\/X.env.scope.names.lookup x=_
  rw [e];exact this
 .have:=h4 y hy
  rw [z] at this
  simpa using this
theorem zk2 {X:Cx} {M:MC} {sc:Scope} {names:List Str} {caps:List Nat} (eN:X.N=M.N) (es:X.env.scope=M.sc)
  (h:(caps.all fun j=>decide (j<M.N.length)&&!((relS sc M.sc).names.lookup (M.N.getD j Str.empty)==some .local))=true) :
  Caps X sc (names++caps.map (fun j=>M.N.getD j Str.empty)) (capV names.length caps):=by
 intro σ hl
 simp only [List.all_eq_true,Bool.and_eq_true,decide_eq_true_eq,Bool.not_eq_true'] at h
 refine ⟨by simp [capV],fun i x v hN hσ _=>?_⟩
 obtain ⟨hk,j,ej,e⟩:=zhS hσ
 rw [List.getElem?_append_right hk,List.getElem?_map,ej] at hN
 have hx:M.N.getD j Str.empty=x:=Option.some.inj hN
 have hj:=h j (List.mem_of_getElem? ej)
 rw [zj8 es]
 refine ⟨fun z=>?_,j,?_,e⟩
 .have:=hj.2
  rw [hx,z] at this
  simp at this
 .rw [eN,← hx,List.getD_eq_getElem?_getD,List.getElem?_eq_getElem hj.1]
  rfl
theorem zqp {K:Frg} {J:It} {H1:Hp} {items:List W} {stab:Hw->Prop} {G1:Hw} {σ:St3} {τ:L2.St} {tg:ITg} {c:T3} {e:E3} {Q:VK} {H0:Hp} (mc:zea c) (me:zbB e) (it:ItIs K J H1 items stab) (ab:Abs K H1 G1) (hs:zaK K H1 σ τ) (g0:Grow K H0 H1)
  (hw:∀ w G' (Q:St3->Hw->Prop),semG tg w σ G' Q->semG tg w σ G' fun σ2 G2=>(σ2.length=σ.length/\∀ (i:Nat) (v:W),σ[i]?=some (some v)->σ2[i]?=some (some v))/\Q σ2 G2)
  (h:lcR items stab G1 (fun w G' K=>semG tg w σ G' fun σ2 G2=>c σ2 G2 fun b G3=>if b=true then e σ2 G3 fun x G4=>K (some x) G4 else K none G3) (lowQ K H0 Q)) :
  tLCb J τ (lowG K (semG tg)) (lowT K c) (lowE K e) (fun acc H'=>∀ p,H' p=none->Q (.ref p) (upd H' p (.lst acc))) H1:=by
 obtain ⟨Pv,p0,pst,hlen,step,fin⟩:=h
 refine ⟨fun i m τ acc H=>m+i=items.length/\Grow K H1 H/\zaK K H σ τ/\∃ ws G,Reps K H ws acc/\Abs K H G/\Pv i ws G,⟨items.length,rfl,.refl,hs,[],G1,rfl,ab,p0⟩,?_⟩
 rintro i m τ acc H ⟨hm,gr,hs,ws,G,rs,a,pv⟩
 have hst:=pst i ws G pv (by omega)
 have hacc:acc.length=ws.length:=rs.length
 by_cases hi:i<items.length
 .refine .inr ⟨it.go i H G gr a hst.1 hi,by omega,fun x H' y=>?_⟩
  obtain ⟨w,ew,g1,rp,a1⟩:=it.yld i H G x H' gr a hst.1 hi y
  refine ⟨w,σ,G,rp,hs.mono g1,a1,zgD tg w σ G _ _ (fun σ2 G2 q τ2 H2 g2 hs2 a2=>?_) (hw w G _ (step i w ws G ew pv))⟩
  obtain ⟨⟨wl,wk⟩,q⟩:=q
  have back:∀ {τ':L2.St} {H':Hp},zaK K H' σ2 τ'->zaK K H' σ τ':=fun {τ' H'} r=>⟨by rw [← wl];exact r.1,fun k w e=>r.2 k w (wk k w e)⟩
  refine zhU mc hs2 a2 q fun b G3 H3 g3 hs3 a3 q3=>?_
  cases b with
  |true =>
   rw [if_pos rfl] at q3 ⊢
   refine za5 me hs3 a3 q3 fun x G4 v H4 g4 hs4 rx a4 q4=>?_
   refine ⟨m - 1,by omega,by omega,gr.trans (g1.trans (g2.trans (g3.trans g4))),back hs4,ws++[x],G4,?_,a4,q4⟩
   exact (rs.mono (g1.trans (g2.trans (g3.trans g4)))).append ⟨v,[],rfl,rx,rfl⟩
  |false =>
   rw [if_neg (by decide)] at q3 ⊢
   exact ⟨m - 1,by omega,by omega,gr.trans (g1.trans (g2.trans g3)),back hs3,ws,G3,rs.mono (g1.trans (g2.trans g3)),a3,q3⟩
 .refine .inl ⟨it.stop i H G gr a hst.1 (by omega),fun p hp=>?_⟩
  have ei:i=items.length:=by omega
  subst ei
  exact fin ws G pv p (a.free hp) _ _ ((g0.trans gr).trans (zaU hp)) rfl (a.new hp ⟨acc,rfl,rs.mono (zaU hp)⟩)
end L3
set_option Elab.async false
set_option linter.all false
set_option maxRecDepth 100000
set_option maxHeartbeats 8000000
namespace L3
open PySem PySem.Spec PyProof.Rows L2 PySem.SeqAt
theorem zjV:∀ (tg:ITg) (w:W) (σ:St3) (G:Hw) (Q:St3->Hw->Prop),semG tg w σ G Q->semG tg w σ G fun σ2 G2=>σ2.length=σ.length/\Q σ2 G2:=by
 intro tg
 refine ITg.rec (motive_1:=fun _=>True) (motive_2:=fun _=>True) (motive_3:=fun _=>True) (motive_4:=fun _=>True) (motive_5:=fun tg=>∀ (w:W) (σ:St3) (G:Hw) (Q:St3->Hw->Prop),semG tg w σ G Q->semG tg w σ G fun σ2 G2=>σ2.length=σ.length/\Q σ2 G2)
  (motive_6:=fun ts=>∀ (ws:List W) (σ:St3) (G:Hw) (Q:St3->Hw->Prop),zab ts ws σ G Q->zab ts ws σ G fun σ2 G2=>σ2.length=σ.length/\Q σ2 G2)
  ?_ ?_ ?_ ?_ ?_ ?_ ?_ ?_ ?_ ?_ ?_ ?_ ?_ ?_ ?_ ?_ ?_ ?_ ?_ ?_ ?_ ?_ ?_ ?_ ?_ ?_ ?_ ?_ ?_ ?nm ?tup ?nil ?cons tg
 case nm=>exact fun i w σ G Q h=>⟨by simp,h⟩
 case tup =>
  intro ts ih w σ G Q h
  cases w with
  |tup ws=>exact ih ws σ G Q h
  |_=>exact h.elim
 case nil =>
  intro ws σ G Q h
  cases ws with
  |nil=>exact ⟨rfl,h⟩
  |cons _ _=>exact h.elim
 case cons =>
  intro t ts ht hts ws σ G Q h
  cases ws with
  |nil=>exact h.elim
  |cons w r =>
   refine zgD t w σ G _ _ (fun σ' G' q=>?_) (ht w σ G _ h)
   exact zgC ts r σ' G' _ _ (fun σ2 G2 q2=>⟨q2.1.trans q.1,q2.2⟩) (hts r σ' G' Q q.2)
 all_goals intros;trivial
mutual
theorem zik:∀ (tg:ITg) (w:W) (σ:St3) (G:Hw) (Q:St3->Hw->Prop),semG tg w σ G Q->semG tg w σ G fun σ2 G2=>(∀ i,i∉tgIx tg->σ2[i]?=σ[i]?)/\Q σ2 G2
 | .nm j,w,σ,G,Q,h=>⟨fun i hi=>by rw [List.getElem?_set_ne];intro z;exact hi (by simp [tgIx,z]),h⟩
 | .tup ts,w,σ,G,Q,h=>by
  cases w with
  |tup ws=>exact zf3 ts ws σ G Q h
  |_=>exact h.elim
theorem zf3:∀ (ts:ITgs) (ws:List W) (σ:St3) (G:Hw) (Q:St3->Hw->Prop),zab ts ws σ G Q->zab ts ws σ G fun σ2 G2=>(∀ i,i∉zlu ts->σ2[i]?=σ[i]?)/\Q σ2 G2
 | .nil,ws,σ,G,Q,h=>by
  cases ws with
  |nil=>exact ⟨fun _ _=>rfl,h⟩
  |cons _ _=>exact h.elim
 | .cons t ts,ws,σ,G,Q,h=>by
  cases ws with
  |nil=>exact h.elim
  |cons w r =>
   refine zgD t w σ G _ _ (fun σ' G' q=>?_) (zik t w σ G _ h)
   refine zgC ts r σ' G' _ _ (fun σ2 G2 q2=>⟨fun i hi=>?_,q2.2⟩) (zf3 ts r σ' G' Q q.2)
   simp only [zlu,List.mem_append,not_or] at hi
   rw [q2.1 i hi.2,q.1 i hi.1]
end
theorem zkW {K:Frg} {H:Hp}:∀ (ks:List Str) {ws:List W} {vs:List V} {a:List (Key×W)} {b:List (Key×V)},Reps K H ws vs->zaL K H a b ->
  zaL K H ((ks.zip ws).foldl (fun acc kv=>dput acc (.inr kv.1) kv.2) a) (((ks.zip vs).map fun kv=>((Sum.inr kv.1:Key),kv.2)).foldl (fun acc kv=>putK acc kv.1 kv.2) b)
 | [],ws,vs,a,b,_,h=>by simpa using h
 |k::ks,[],vs,a,b,hr,h=>by rw [show vs=[] from hr];simpa using h
 |k::ks,w::ws,vs,a,b,hr,h=>by
  obtain ⟨v,r,e,rw',rr⟩:=hr
  subst e
  simp only [List.zip_cons_cons,List.foldl_cons,List.map_cons]
  exact zkW ks rr (h.put rw')
theorem zeO {K:Frg} {H:Hp} {f:Str} {w:W}:∀ {l:List (Str×W)} {l':List (Str×V)},zaL K H l l'->l.lookup f=some w->∃ v,l'.lookup f=some v/\Rep K H w v
 | [],_,h,e=>by cases e
 |p::r,_,⟨v,t,e,h,hr⟩,q=>by
  subst e
  obtain ⟨n,u⟩:=p
  rw [List.lookup_cons] at q ⊢
  cases hx:f==n with
  |true=>rw [hx] at q;cases q;exact ⟨v,rfl,h⟩
  |false=>rw [hx] at q;exact zeO hr q
theorem zm0 {K:Frg} {H:Hp} {G:Hw} {w:W} {v:V} {T:String} (r:Rep K H w v) (ab:Abs K H G) (h:tyW G w T):tyV K T v H:=by
 cases w with
 |str x=>cases r;exact h
 |ref p =>
  cases r
  simp only [tyW] at h
  split at h
  .rename_i ws e
   obtain ⟨vs,q,_⟩:=ab.lst e
   exact .inl ⟨h,vs,.of q⟩
  .rename_i ws e
   obtain ⟨vs,q,_⟩:=ab.seq (a:=p) (ws:=ws) (by unfold zav;rw [e])
   exact .inl ⟨h,vs,q⟩
  .rename_i kvs e
   obtain ⟨l,q,_⟩:=ab.dic e
   exact .inr (.inr (.inl ⟨h,.inl ⟨l,q⟩⟩))
  .exact h.elim
 |_=>exact h.elim
theorem zoe {l:List Nat} {k:Nat} (h:l.all (fun i=>decide (i<k))=true) {i:Nat} (hi:k<=i):i∉l:=fun hm=>by
 have:=List.all_eq_true.mp h i hm
 simp at this
 omega
end L3
set_option Elab.async false
set_option linter.all false
set_option maxRecDepth 100000
set_option maxHeartbeats 8000000
namespace L3
open PySem PySem.Spec PyProof.Rows L2 PySem.SeqAt
theorem zow {op:CmpOp} {a b:IE} {M:MC} {l:Expr} {os:List CmpOp} {rs:List Expr} {q:Pos} (h:mE (.cmp op a b) M (.Compare l os rs q)=true):∃ o r,os=[o]/\rs=[r]:=by
 cases os with
 |nil=>exact absurd h zzN
 |cons o os =>
  cases os with
  |cons _ _=>exact absurd h zzN
  |nil =>
   cases rs with
   |nil=>exact absurd h zzN
   |cons r rs =>
    cases rs with
    |cons _ _=>exact absurd h zzN
    |nil=>exact ⟨o,r,rfl,rfl⟩
theorem zox {o1 o2:CmpOp} {a b c:IE} {M:MC} {l:Expr} {os:List CmpOp} {rs:List Expr} {q:Pos} (h:mE (.chn o1 o2 a b c) M (.Compare l os rs q)=true):∃ p1 p2 r t,os=[p1,p2]/\rs=[r,t]:=by
 cases os with
 |nil=>exact absurd h zzN
 |cons p1 os =>
  cases os with
  |nil=>exact absurd h zzN
  |cons p2 os =>
   cases os with
   |cons _ _=>exact absurd h zzN
   |nil =>
    cases rs with
    |nil=>exact absurd h zzN
    |cons r rs =>
     cases rs with
     |nil=>exact absurd h zzN
     |cons t rs =>
      cases rs with
      |cons _ _=>exact absurd h zzN
      |nil=>exact ⟨p1,p2,r,t,rfl,rfl⟩
theorem zoy {o1 o2 o3:CmpOp} {a b c d:IE} {M:MC} {l:Expr} {os:List CmpOp} {rs:List Expr} {q:Pos} (h:mE (.ch3 o1 o2 o3 a b c d) M (.Compare l os rs q)=true):∃ p1 p2 p3 r t u,os=[p1,p2,p3]/\rs=[r,t,u]:=by
 match os,rs,h with
 | [p1,p2,p3],[r,t,u],_=>exact ⟨p1,p2,p3,r,t,u,rfl,rfl⟩
section
variable {X : Cx} {a b c d : Expr} {pos : Pos} {ta tb tc td : TE}
def tCh3 (r1 r2 r3:R2) (ta tb tc td:TE):TE:=fun σ H Q=>ta σ H fun x H1=>tb σ H1 fun y H2=>r1 x y H2 fun z H3=>∃ k,z=.bl k /\
 (if k=true then tc σ H3 fun u H4=>r2 y u H4 fun z2 H5=>∃ k2,z2=.bl k2/\(if k2=true then td σ H5 fun t H6=>r3 u t H6 Q else Q (.bl false) H5) else Q (.bl false) H3)
theorem zp4 {o1 o2 o3:CmpOp} {r1 r2 r3:R2} (h1:OpR X (compareOp o1) r1) (h2:OpR X (compareOp o2) r2) (h3:OpR X (compareOp o3) r3) (ha:PE X a ta) (hb:PE X b tb) (hc:PE X c tc) (hd:PE X d td)
  (hm:lastMarks [o1,o2,o3] [b,c,d]=false):PE X (.Compare a [o1,o2,o3] [b,c,d] pos) (tCh3 r1 r2 r3 ta tb tc td):=by
 intro pins s σ H Q I h
 refine Compare_chain (thn (ha pins s σ H _ I h) fun v s1 ⟨x,H1,I1,e1,q1⟩=>chain_link (thn (hb pins s1 σ H1 _ I1 q1) fun u s2 ⟨y,H2,I2,e2,q2⟩ =>
  thn (h1 pins s2 σ H2 x y v u _ I2 e1 e2 q2) fun _ s3 ⟨z,H3,I3,e3,k,e,q3⟩=>?_)) hm
 subst e
 cases e3
 refine wpAny_truthy_bool ?_
 cases k with
 |false=>exact ite_ff ⟨.bl false,H3,I3,rfl,q3⟩
 |true =>
  refine ite_tt (chain_link (thn (hc pins s3 σ H3 _ I3 q3) fun w4 s4 ⟨z4,H4,I4,e4,q4⟩=>thn (h2 pins s4 σ H4 y z4 u w4 _ I4 e2 e4 q4) fun _ s5 ⟨z5,H5,I5,e5,k2,e,q5⟩=>?_))
  subst e
  cases e5
  refine wpAny_truthy_bool ?_
  cases k2 with
  |false=>exact ite_ff ⟨.bl false,H5,I5,rfl,q5⟩
  |true=>exact ite_tt (chain_last (thn (hd pins s5 σ H5 _ I5 q5) fun w6 s6 ⟨z6,H6,I6,e6,q6⟩=>h3 pins s6 σ H6 z4 z6 w4 w6 Q I6 e4 e6 q6))
theorem zpN {o1 o2 o3:CmpOp} {r1 r2 r3:R2} (h1:OpR X (compareOp o1) r1) (h2:OpR X (compareOp o2) r2) (h3:OpR X (compareOp o3) r3) (ha:PE X a ta) (hb:PE X b tb) (hc:PE X c tc) (hd:PE X d td)
  (hm:lastMarks [o1,o2,o3] [b,c,d]=false):PT X (.Compare a [o1,o2,o3] [b,c,d] pos) (znC (tCh3 r1 r2 r3 ta tb tc td)):=by
 intro pins s σ H Q I h
 refine isTrue_chain (thn (ha pins s σ H _ I h) fun v s1 ⟨x,H1,I1,e1,q1⟩=>test_link (thn (hb pins s1 σ H1 _ I1 q1) fun u s2 ⟨y,H2,I2,e2,q2⟩ =>
  thn (h1 pins s2 σ H2 x y v u _ I2 e1 e2 q2) fun _ s3 ⟨z,H3,I3,e3,k,e,q3⟩=>?_)) hm
 subst e
 cases e3
 refine wpAny_truthy_bool ?_
 cases k with
 |false =>
  obtain ⟨k',e',q'⟩:=q3
  cases e'
  exact ite_ff ⟨H3,I3,q'⟩
 |true =>
  refine ite_tt (test_link (thn (hc pins s3 σ H3 _ I3 q3) fun w4 s4 ⟨z4,H4,I4,e4,q4⟩=>thn (h2 pins s4 σ H4 y z4 u w4 _ I4 e2 e4 q4) fun _ s5 ⟨z5,H5,I5,e5,k2,e,q5⟩=>?_))
  subst e
  cases e5
  refine wpAny_truthy_bool ?_
  cases k2 with
  |false =>
   obtain ⟨k',e',q'⟩:=q5
   cases e'
   exact ite_ff ⟨H5,I5,q'⟩
  |true =>
   refine ite_tt (test_last (thn (hd pins s5 σ H5 _ I5 q5) fun w6 s6 ⟨z6,H6,I6,e6,q6⟩=>thn (h3 pins s6 σ H6 z4 z6 w4 w6 _ I6 e4 e6 q6) fun _ s7 ⟨z7,H7,I7,e7,k3,e,q7⟩=>?_))
   subst e
   cases e7
   exact wpAny_truthy_bool ⟨H7,I7,q7⟩
end
section
variable {Γ : Ctx3} {p : Par} (g : Good Γ p)
def OkE (Γ:Ctx3) (p:Par) (e:IE):Prop:=∀ M X x,Lk Γ M p X->mE e M x=true->PE X x (lowE X.K (sem Γ XN e).e)/\PT X x (lowT X.K (sem Γ XN e).t)/\∀ op vs pos,x=.BoolOp op vs pos->PW X x (lowT X.K (sem Γ XN e).t)
def OkO (Γ:Ctx3) (p:Par) (o:IO):Prop:=∀ M X,Lk Γ M p X->(∀ x,mO o M x=true->PO X x (lowO X.K (semO Γ XN o)))/\∀ xs,mC o M xs=true->PTs X xs (lowT X.K (semC Γ o))
def OkA (Γ:Ctx3) (p:Par) (es:IEs):Prop:=∀ M X xs,Lk Γ M p X->mA es M xs=true->PA X xs (lowA X.K (semA Γ XN es))/\xs.all zbo=true /\
 (∀ ks keys pos,keyB ks keys=true->keys.length=xs.length->keys.all (·.isSome)=true/\ks.length=keys.length/\∃ trs,PPs X pos keys xs trs/\∀ τ H (Q:List (V×V)->Hp->Prop),
  (∃ σ G,zaK X.K H σ τ/\Abs X.K H G/\semA Γ XN es σ G fun ws G'=>∀ vs H',Grow X.K H H'->Reps X.K H' ws vs->Abs X.K H' G'->Q ((ks.zip vs).map fun kv=>(V.str kv.1,kv.2)) H')->zh6 trs τ H Q)/\zjx X xs (semL Γ es)
def OkI (Γ:Ctx3) (p:Par) (it:II):Prop:=∀ M X x,Lk Γ M p X->mI it M x=true->∀ tg,PI X tg x (lowI X.K (semI Γ XN it))
theorem zbq {M:MC} {X:Cx} {x:Expr} {e:E3} (m:zbB e) (h:PE X x (lowE X.K e)) (he:∀ whole,isTrue x X.env whole=(do let v ← whole;standAt x.pos;holding [v] (truthy v))) (hb:∀ op vs pos,x≠.BoolOp op vs pos) :
  PE X x (lowE X.K (mkE e).e)/\PT X x (lowT X.K (mkE e).t)/\∀ op vs pos,x=.BoolOp op vs pos->PW X x (lowT X.K (mkE e).t) :=
 ⟨h,pt_of m h he,fun op vs pos z=>absurd z (hb op vs pos)⟩
include g
theorem s_var (i:Nat):OkE Γ p (.var i):=by
 intro M X x L h
 cases x with
 |Name y q =>
  replace h:=bd4 h
  simp only [Bool.not_eq_true'] at h
  refine zbq (M:=M) (zal g.mono XN (.var i)) ((zpW (i:=i) (by rw [L.N];exact zbP h.1.1.1) (by rw [L.sc];exact zpb h.1.1.2) h.1.2 h.2).imp fun τ H Q q=>?_) (fun _=>rfl) (fun _ _ _ z=>nomatch z)
  obtain ⟨σ,G,hs,ab,q⟩:=q
  split at q
  .rename_i w e
   obtain ⟨v,ev,rp⟩:=hs.2 i w e
   exact ⟨v,ev,q v H .refl rp ab⟩
  .exact q.elim
 |_=>exact absurd h zzN
theorem s_con (c:Const):OkE Γ p (.con c):=by
 intro M X x L h
 cases x with
 |Constant d k q =>
  replace h:=of_decide_eq_true h
  subst h
  refine zbq (M:=M) (zal g.mono XN (.con c)) ?_ (fun _=>rfl) (fun _ _ _ z=>nomatch z)
  cases c with
  |none=>exact zp0.imp fun τ H Q q=>by obtain ⟨σ,G,hs,ab,q⟩:=q;exact q _ H .refl rfl ab
  |bool b=>exact pe_bl.imp fun τ H Q q=>by obtain ⟨σ,G,hs,ab,q⟩:=q;exact q _ H .refl rfl ab
  |int b=>exact zp2.imp fun τ H Q q=>by obtain ⟨σ,G,hs,ab,q⟩:=q;exact q _ H .refl rfl ab
  |str b=>exact znc.imp fun τ H Q q=>by obtain ⟨σ,G,hs,ab,q⟩:=q;exact q _ H .refl rfl ab
  |_=>exact fun pins s σ H Q I q=>by obtain ⟨σ,G,hs,ab,q⟩:=q;exact q.elim
 |_=>exact absurd h zzN
theorem s_glb (i:Nat):OkE Γ p (.glb i):=by
 intro M X x L h
 cases x with
 |Name y q =>
  replace h:=bd2 h
  have gl:=zkM L.sc h.2
  have hi:=zbP h.1
  rw [← L.gls] at hi
  obtain ⟨e,ei,rfl⟩:=zdd hi
  refine zbq (M:=M) (zal g.mono XN (.glb i)) ((g.gl e (zbj ei) X L.fits gl.1 q gl.2.1 gl.2.2).imp fun τ H Q q=>?_) (fun _=>rfl) (fun _ _ _ z=>nomatch z)
  obtain ⟨σ,G,hs,ab,q⟩:=q
  simp only [ei] at q
  exact ⟨σ,G,hs,ab,q⟩
 |_=>exact absurd h zzN
theorem hu_X {M:MC} {X:Cx} (L:Lk Γ M p X):X.A.units+200<cLine:=by rw [L.fits.A];exact g.un
theorem s_bin (op:Operator) (a b:IE) (ha:OkE Γ p a) (hb:OkE Γ p b):OkE Γ p (.bin op a b):=by
 intro M X x L h
 cases x with
 |BinOp l o r q =>
  replace h:=bd3 h
  simp only [decide_eq_true_eq] at h
  obtain ⟨⟨rfl,h1⟩,h2⟩:=h
  exact zbq (M:=M) (zal g.mono XN (.bin op a b)) ((pe_op (zqZ op) (ha M X l L h1).1 (hb M X r L h2).1).imp fun τ H Q q=>zir (zal g.mono XN a) (zal g.mono XN b) (zg7 op) q) (fun _=>rfl) (fun _ _ _ z=>nomatch z)
 |_=>exact absurd h zzN
theorem s_neg (a:IE) (ha:OkE Γ p a):OkE Γ p (.neg a):=by
 intro M X x L h
 cases x with
 |UnaryOp o l q =>
  cases o with
  |USub =>
   skip
   refine zbq (M:=M) (zal g.mono XN (.neg a)) ((pe_un zpe (ha M X l L h).1).imp fun τ H Q q=>?_) (fun _=>rfl) (fun _ _ _ z=>nomatch z)
   obtain ⟨σ,G,hs,ab,q⟩:=q
   refine za5 (zal g.mono XN a) hs ab q fun w G1 v H1 gr _ rp ab q=>?_
   cases w with
   |int i=>cases rp;exact ⟨i,rfl,q _ H1 gr rfl ab⟩
   |_=>exact q.elim
  |_=>exact absurd h zzN
 |_=>exact absurd h zzN
theorem s_not (a:IE) (ha:OkE Γ p a):OkE Γ p (.not a):=by
 intro M X x L h
 cases x with
 |UnaryOp o l q =>
  cases o with
  |Not =>
   skip
   refine ⟨(zpZ (ha M X l L h).1).imp fun τ H Q q=>?_,(zpM (ha M X l L h).2.1).imp fun τ H Q q=>?_,fun _ _ _ z=>nomatch z⟩
   .obtain ⟨σ,G,hs,ab,q⟩:=q
    refine za5 (zal g.mono XN a) hs ab q fun w G1 v H1 gr _ rp ab q=>?_
    cases w with
    |bl i=>cases rp;exact ⟨i,rfl,q _ H1 gr rfl ab⟩
    |_=>exact q.elim
   .obtain ⟨σ,G,hs,ab,q⟩:=q
    exact zhU (zft g.mono XN a) hs ab q fun b G1 H1 gr _ ab q=>q H1 gr ab
  |_=>exact absurd h zzN
 |_=>exact absurd h zzN
theorem s_cmp (op:CmpOp) (a b:IE) (ha:OkE Γ p a) (hb:OkE Γ p b):OkE Γ p (.cmp op a b):=by
 intro M X x L h
 cases x with
 |Compare l os rs q =>
   obtain ⟨o,r,rfl,rfl⟩:=zow h
   replace h:=bd4 h
   simp only [decide_eq_true_eq] at h
   obtain ⟨⟨⟨rfl,h1⟩,h2⟩,h3⟩:=h
   have m:=zal g.mono XN (.cmp op a b)
   refine ⟨(zn5 (zbZ (hu_X g L) op) (ha M X l L h1).1 (hb M X r L h2).1 (zck h3)).imp fun τ H Q q=>zir (zal g.mono XN a) (zal g.mono XN b) (zaC op) q,
    (znR (zbZ (hu_X g L) op) (ha M X l L h1).1 (hb M X r L h2).1 (zck h3)).imp fun τ H Q q=>zir (zal g.mono XN a) (zal g.mono XN b) (zaC op) (zhT m q),fun _ _ _ z=>nomatch z⟩
 |_=>exact absurd h zzN
theorem s_chn (o1 o2:CmpOp) (a b c:IE) (ha:OkE Γ p a) (hb:OkE Γ p b) (hc:OkE Γ p c):OkE Γ p (.chn o1 o2 a b c):=by
 intro M X x L h
 cases x with
 |Compare l os rs q =>
   obtain ⟨q1,q2,r,t,rfl,rfl⟩:=zox h
   replace h:=bd6 h
   simp only [decide_eq_true_eq] at h
   obtain ⟨⟨⟨⟨⟨rfl,rfl⟩,h1⟩,h2⟩,h3⟩,h4⟩:=h
   have m:=zal g.mono XN (.chn o1 o2 a b c)
   have key:∀ τ H Q,lowE X.K (sem Γ XN (.chn o1 o2 a b c)).e τ H Q->zjH (low2 X.K (cmpR o1)) (low2 X.K (cmpR o2)) (lowE X.K (sem Γ XN a).e) (lowE X.K (sem Γ XN b).e) (lowE X.K (sem Γ XN c).e) τ H Q:=fun τ H Q q=>by
    obtain ⟨σ,G,hs,ab,q⟩:=q
    refine za5 (zal g.mono XN a) hs ab q fun x G1 v H1 g1 hs1 rx a1 q=>?_
    refine za5 (zal g.mono XN b) hs1 a1 q fun y G2 u H2 g2 hs2 ry a2 q=>?_
    refine ⟨x,y,G2,rx.mono g2,ry,a2,zaC o1 x y G2 _ _ (fun z G3 q v3 H3 g3 r3 a3=>?_) q⟩
    cases z with
    |bl k =>
     cases r3
     refine ⟨k,rfl,?_⟩
     have q:if k=true then _ else _:=q
     split
     .rename_i hk
      rw [if_pos hk] at q
      refine za5 (zal g.mono XN c) (hs2.mono g3) a3 q fun w G4 v4 H4 g4 hs4 r4 a4 q=>?_
      exact ⟨y,w,G4,(ry.mono g3).mono g4,r4,a4,zaC o2 y w G4 _ _ (fun w5 G5 q v5 H5 g5=>q v5 H5 (g1.trans (g2.trans (g3.trans (g4.trans g5))))) q⟩
     .rename_i hk
      rw [if_neg hk] at q
      exact q _ H3 (g1.trans (g2.trans g3)) rfl a3
    |_=>exact q.elim
   refine ⟨(zl1 (zbZ (hu_X g L) o1) (zbZ (hu_X g L) o2) (ha M X l L h1).1 (hb M X r L h2).1 (hc M X t L h3).1 (zck (op:=o2) h4)).imp key,
    (zlM (zbZ (hu_X g L) o1) (zbZ (hu_X g L) o2) (ha M X l L h1).1 (hb M X r L h2).1 (hc M X t L h3).1 (zck (op:=o2) h4)).imp fun τ H Q q=>key _ _ _ (zhT m q),fun _ _ _ z=>nomatch z⟩
 |_=>exact absurd h zzN
theorem s_ch3 (o1 o2 o3:CmpOp) (a b c d:IE) (ha:OkE Γ p a) (hb:OkE Γ p b) (hc:OkE Γ p c) (hd:OkE Γ p d):OkE Γ p (.ch3 o1 o2 o3 a b c d):=by
 intro M X x L h
 cases x with
 |Compare l os rs q =>
   obtain ⟨q1,q2,q3,r,t,t2,rfl,rfl⟩:=zoy h
   replace h:=bd8 h
   simp only [decide_eq_true_eq] at h
   obtain ⟨⟨⟨⟨⟨⟨⟨rfl,rfl⟩,rfl⟩,h1⟩,h2⟩,h3⟩,h4⟩,h5⟩:=h
   have m:=zal g.mono XN (.ch3 o1 o2 o3 a b c d)
   have key:∀ τ H Q,lowE X.K (sem Γ XN (.ch3 o1 o2 o3 a b c d)).e τ H Q->tCh3 (low2 X.K (cmpR o1)) (low2 X.K (cmpR o2)) (low2 X.K (cmpR o3)) (lowE X.K (sem Γ XN a).e) (lowE X.K (sem Γ XN b).e) (lowE X.K (sem Γ XN c).e) (lowE X.K (sem Γ XN d).e) τ H Q:=fun τ H Q q=>by
    obtain ⟨σ,G,hs,ab,q⟩:=q
    refine za5 (zal g.mono XN a) hs ab q fun x G1 v H1 g1 hs1 rx a1 q=>?_
    refine za5 (zal g.mono XN b) hs1 a1 q fun y G2 u H2 g2 hs2 ry a2 q=>?_
    refine ⟨x,y,G2,rx.mono g2,ry,a2,zaC o1 x y G2 _ _ (fun z G3 q v3 H3 g3 r3 a3=>?_) q⟩
    cases z with
    |bl k =>
     cases r3
     refine ⟨k,rfl,?_⟩
     have q:if k=true then _ else _:=q
     split
     .rename_i hk
      rw [if_pos hk] at q
      refine za5 (zal g.mono XN c) (hs2.mono g3) a3 q fun w G4 v4 H4 g4 hs4 r4 a4 q=>?_
      refine ⟨y,w,G4,(ry.mono g3).mono g4,r4,a4,zaC o2 y w G4 _ _ (fun z5 G5 q v5 H5 g5 r5 a5=>?_) q⟩
      cases z5 with
      |bl k2 =>
       cases r5
       refine ⟨k2,rfl,?_⟩
       have q:if k2=true then _ else _:=q
       split
       .rename_i hk2
        rw [if_pos hk2] at q
        refine za5 (zal g.mono XN d) (hs4.mono g5) a5 q fun w6 G6 v6 H6 g6 hs6 r6 a6 q=>?_
        exact ⟨w,w6,G6,(r4.mono g5).mono g6,r6,a6,zaC o3 w w6 G6 _ _ (fun w7 G7 q v7 H7 g7=>q v7 H7 (g1.trans (g2.trans (g3.trans (g4.trans (g5.trans (g6.trans g7))))))) q⟩
       .rename_i hk2
        rw [if_neg hk2] at q
        exact q _ H5 (g1.trans (g2.trans (g3.trans (g4.trans g5)))) rfl a5
      |_=>exact q.elim
     .rename_i hk
      rw [if_neg hk] at q
      exact q _ H3 (g1.trans (g2.trans g3)) rfl a3
    |_=>exact q.elim
   refine ⟨(zp4 (zbZ (hu_X g L) o1) (zbZ (hu_X g L) o2) (zbZ (hu_X g L) o3) (ha M X l L h1).1 (hb M X r L h2).1 (hc M X t L h3).1 (hd M X t2 L h4).1 (zck (op:=o3) h5)).imp key,
    (zpN (zbZ (hu_X g L) o1) (zbZ (hu_X g L) o2) (zbZ (hu_X g L) o3) (ha M X l L h1).1 (hb M X r L h2).1 (hc M X t L h3).1 (hd M X t2 L h4).1 (zck (op:=o3) h5)).imp fun τ H Q q=>key _ _ _ (zhT m q),fun _ _ _ z=>nomatch z⟩
 |_=>exact absurd h zzN
theorem s_and (a b:IE) (ha:OkE Γ p a) (hb:OkE Γ p b):OkE Γ p (.and a b):=by
 intro M X x L h
 have e1:∀ τ H Q,lowE X.K (sem Γ XN (.and a b)).e τ H Q->zpq (lowE X.K (sem Γ XN a).e) (lowE X.K (sem Γ XN b).e) τ H Q:=fun τ H Q q=>by
  obtain ⟨σ,G,hs,ab,q⟩:=q
  refine za5 (zal g.mono XN a) hs ab q fun w G1 v H1 g1 hs1 rx a1 q=>?_
  cases w with
  |bl k =>
   cases rx
   refine ⟨k,rfl,?_⟩
   have q:if k=true then _ else _:=q
   split
   .rename_i hk
    rw [if_pos hk] at q
    exact ⟨σ,G1,hs1,a1,zal g.mono XN b σ G1 _ _ (fun w G' q v' H' g'=>q v' H' (g1.trans g')) q⟩
   .rename_i hk
    rw [if_neg hk] at q
    exact q _ H1 g1 rfl a1
  |_=>exact q.elim
 have e2:∀ τ H Q,lowT X.K (sem Γ XN (.and a b)).t τ H Q->tAnd (lowT X.K (sem Γ XN a).t) (lowT X.K (sem Γ XN b).t) τ H Q:=fun τ H Q q=>by
  obtain ⟨σ,G,hs,ab,q⟩:=q
  refine zhU (zft g.mono XN a) hs ab q fun k G1 H1 g1 hs1 a1 q=>?_
  split
  .rename_i hk
   rw [if_pos hk] at q
   exact ⟨σ,G1,hs1,a1,zft g.mono XN b σ G1 _ _ (fun w G' q H' g'=>q H' (g1.trans g')) q⟩
  .rename_i hk
   rw [if_neg hk] at q
   exact q H1 g1 a1
 cases x with
 |BoolOp o vs q =>
  match o,vs,h with
  | .And,[l,r],h =>
   replace h:=bd2 h
   have A:=ha M X l L h.1
   have B:=hb M X r L h.2
   have W2:PW X (.BoolOp .And [l,r] q) (lowT X.K (sem Γ XN (.and a b)).t):=(zm9 A.2.1 (znO B.2.1)).imp e2
   exact ⟨(zne A.1 (znd B.1)).imp e1,W2.pt,fun _ _ _ _=>W2⟩
  | .And,l::r::q'::rest,h =>
   replace h:=bd2 h
   have A:=ha M X l L h.1
   have B:=hb M X _ L h.2
   have W2:PW X (.BoolOp .And (l::r::q'::rest) q) (lowT X.K (sem Γ XN (.and a b)).t):=(zm9 A.2.1 (B.2.2 _ _ _ rfl)).imp e2
   exact ⟨(zne A.1 B.1).imp e1,W2.pt,fun _ _ _ _=>W2⟩
 |_=>exact absurd h zzN
theorem s_or (a b:IE) (ha:OkE Γ p a) (hb:OkE Γ p b):OkE Γ p (.or a b):=by
 intro M X x L h
 have e1:∀ τ H Q,lowE X.K (sem Γ XN (.or a b)).e τ H Q->tOrV (lowE X.K (sem Γ XN a).e) (lowE X.K (sem Γ XN b).e) τ H Q:=fun τ H Q q=>by
  obtain ⟨σ,G,hs,ab,q⟩:=q
  refine za5 (zal g.mono XN a) hs ab q fun w G1 v H1 g1 hs1 rx a1 q=>?_
  cases w with
  |bl k =>
   cases rx
   refine ⟨k,rfl,?_⟩
   have q:if k=true then _ else _:=q
   split
   .rename_i hk
    rw [if_pos hk] at q
    exact q _ H1 g1 rfl a1
   .rename_i hk
    rw [if_neg hk] at q
    exact ⟨σ,G1,hs1,a1,zal g.mono XN b σ G1 _ _ (fun w G' q v' H' g'=>q v' H' (g1.trans g')) q⟩
  |_=>exact q.elim
 have e2:∀ τ H Q,lowT X.K (sem Γ XN (.or a b)).t τ H Q->tOr (lowT X.K (sem Γ XN a).t) (lowT X.K (sem Γ XN b).t) τ H Q:=fun τ H Q q=>by
  obtain ⟨σ,G,hs,ab,q⟩:=q
  refine zhU (zft g.mono XN a) hs ab q fun k G1 H1 g1 hs1 a1 q=>?_
  split
  .rename_i hk
   rw [if_pos hk] at q
   exact q H1 g1 a1
  .rename_i hk
   rw [if_neg hk] at q
   exact ⟨σ,G1,hs1,a1,zft g.mono XN b σ G1 _ _ (fun w G' q H' g'=>q H' (g1.trans g')) q⟩
 cases x with
 |BoolOp o vs q =>
  match o,vs,h with
  | .Or,[l,r],h =>
   replace h:=bd2 h
   have A:=ha M X l L h.1
   have B:=hb M X r L h.2
   have W2:PW X (.BoolOp .Or [l,r] q) (lowT X.K (sem Γ XN (.or a b)).t):=(zpL A.2.1 (zpK B.2.1)).imp e2
   exact ⟨(zpY A.1 (znd B.1)).imp e1,W2.pt,fun _ _ _ _=>W2⟩
  | .Or,l::r::q'::rest,h =>
   replace h:=bd2 h
   have A:=ha M X l L h.1
   have B:=hb M X _ L h.2
   have W2:PW X (.BoolOp .Or (l::r::q'::rest) q) (lowT X.K (sem Γ XN (.or a b)).t):=(zpL A.2.1 (B.2.2 _ _ _ rfl)).imp e2
   exact ⟨(zpY A.1 B.1).imp e1,W2.pt,fun _ _ _ _=>W2⟩
 |_=>exact absurd h zzN
theorem s_ite (c a b:IE) (hc:OkE Γ p c) (ha:OkE Γ p a) (hb:OkE Γ p b):OkE Γ p (.ite c a b):=by
 intro M X x L h
 cases x with
 |IfExp t l r q =>
  replace h:=bd3 h
  refine ⟨(zl0 (hc M X t L h.1.1).2.1 (ha M X l L h.1.2).1 (hb M X r L h.2).1).imp fun τ H Q q=>?_,fun _ _ _ _ _ _ q=>?_,fun _ _ _ z=>nomatch z⟩
  .obtain ⟨σ,G,hs,ab,q⟩:=q
   refine zhU (zft g.mono XN c) hs ab q fun k G1 H1 g1 hs1 a1 q=>?_
   split
   .rename_i hk
    rw [if_pos hk] at q
    exact ⟨σ,G1,hs1,a1,zal g.mono XN a σ G1 _ _ (fun w G' q v' H' g'=>q v' H' (g1.trans g')) q⟩
   .rename_i hk
    rw [if_neg hk] at q
    exact ⟨σ,G1,hs1,a1,zal g.mono XN b σ G1 _ _ (fun w G' q v' H' g'=>q v' H' (g1.trans g')) q⟩
  .obtain ⟨_,_,_,_,z⟩:=q
   exact z.elim
 |_=>exact absurd h zzN
theorem s_ix (a i:IE) (ha:OkE Γ p a) (hb:OkE Γ p i):OkE Γ p (.ix a i):=by
 intro M X x L h
 cases x with
 |Subscript l r q =>
  replace h:=bd3 h
  exact zbq (M:=M) (zal g.mono XN (.ix a i)) ((pe_ix (ix_ok (hu_X g L)) (ha M X l L h.1.1).1 (hb M X r L h.1.2).1 (zlU h.2)).imp fun τ H Q q=>zir (zal g.mono XN a) (zal g.mono XN i) ziE q) (fun _=>rfl) (fun _ _ _ z=>nomatch z)
 |_=>exact absurd h zzN
theorem s_sl (a:IE) (lo hi:IO) (ha:OkE Γ p a) (hl:OkO Γ p lo) (hh:OkO Γ p hi):OkE Γ p (.sl a lo hi):=by
  intro M X x L h
  cases x with
  |Subscript l r q =>
    cases r with
    |Slice y z sp q2 =>
     cases sp with
     |none =>
      replace h:=bd3 h
      refine zbq (M:=M) (zal g.mono XN (.sl a lo hi)) ((zlY sl_ok (ha M X l L h.1.1).1 ((hl M X L).1 y h.1.2) ((hh M X L).1 z h.2)).imp fun τ H Q q=>?_) (fun _=>rfl) (fun _ _ _ z=>nomatch z)
      obtain ⟨σ,G,hs,ab,q⟩:=q
      refine za5 (zal g.mono XN a) hs ab q fun w G1 v H1 g1 hs1 rx a1 q=>?_
      refine ⟨σ,G1,hs1,a1,zqh g.mono XN lo σ G1 _ _ (fun o G2 q H2 g2 a2=>?_) q⟩
      refine ⟨σ,G2,hs1.mono g2,a2,zqh g.mono XN hi σ G2 _ _ (fun o2 G3 q H3 g3 a3=>?_) q⟩
      exact ⟨w,G3,(rx.mono g2).mono g3,a3,zij (fun w' G' q v' H' g'=>q v' H' (g1.trans (g2.trans (g3.trans g')))) q⟩
     |some _=>exact absurd h zzN
    |_=>exact absurd h zzN
  |_=>exact absurd h zzN
theorem s_tup (es:IEs) (hs:OkA Γ p es):OkE Γ p (.tup es):=by
 intro M X x L h
 cases x with
 |Tuple xs k q =>
  skip
  refine zbq (M:=M) (zal g.mono XN (.tup es)) ((zpX (hs M X xs L h).1).imp fun τ H Q q=>?_) (fun _=>rfl) (fun _ _ _ z=>nomatch z)
  obtain ⟨σ,G,hs',ab,q⟩:=q
  refine zfL (zcF g.mono XN es) hs' ab q fun ws G1 vs H1 g1 hs1 rs a1 q=>⟨by rw [rs.length];exact q.1,zdJ a1 rs fun v' H' g'=>q.2 v' H' (g1.trans g')⟩
 |_=>exact absurd h zzN
theorem s_lst (es:IEs) (hs:OkA Γ p es):OkE Γ p (.lst es):=by
 intro M X x L h
 cases x with
 |List xs q =>
  skip
  refine zbq (M:=M) (zal g.mono XN (.lst es)) ((zp1 (hs M X xs L h).1).imp fun τ H Q q=>?_) (fun _=>rfl) (fun _ _ _ z=>nomatch z)
  obtain ⟨σ,G,hs',ab,q⟩:=q
  refine zfL (zcF g.mono XN es) hs' ab q fun ws G1 vs H1 g1 hs1 rs a1 q=>⟨by rw [rs.length];exact q.1,zb6 a1 rs fun r hr v' H' g'=>q.2 r hr v' H' (g1.trans g')⟩
 |_=>exact absurd h zzN
theorem zfe {Γ:Ctx3} {M:MC} {es:IEs} {xs:List Expr} (h:mA es M xs=true):xs=[]->∀ σ G Q,semA Γ XN es σ G Q->Q [] G:=by
 rintro rfl σ G Q q
 cases es with
 |nil=>exact q
 |cons _ _=>exact absurd h zzN
theorem zpC (f:Nat) (es:IEs) (hs:OkA Γ p es):OkE Γ p (.call f es):=by
  intro M X x L h
  cases x with
  |Call fn xs kw q =>
    cases fn with
    |Name y qy =>
     cases kw with
     |nil =>
      replace h:=bd3 h
      have gl:=zkM L.sc h.1.2
      have hi:=zbP h.1.1
      rw [← L.fns] at hi
      obtain ⟨e,ei,rfl⟩:=zdd hi
      have A:=hs M X xs L h.2
      refine zbq (M:=M) (zal g.mono XN (.call f es)) ((g.fn e (zbj ei) X L.fits gl.1 xs (semA Γ XN es) qy q (zcF g.mono XN es) A.2.1 A.1 (zfe g h.2) gl.2.1 gl.2.2).imp fun τ H Q q=>?_) (fun _=>rfl) (fun _ _ _ z=>nomatch z)
      obtain ⟨σ,G,hs',ab,q⟩:=q
      refine ⟨σ,G,hs',ab,zcF g.mono XN es σ G _ _ (fun ws G1 q=>?_) q⟩
      simp only [ei] at q
      exact q
     |cons _ _=>exact absurd h zzN
    |_=>exact absurd h zzN
  |_=>exact absurd h zzN
theorem s_spc (i:Nat) (es:IEs) (hs:OkA Γ p es):OkE Γ p (.spc i es):=by
 intro M X x L h
 replace h:=bd2 h
 replace h:=h.2
 split at h
 .rename_i m hm
  split at h
  .rename_i xs hx
   rw [← L.sxs] at hm
   obtain ⟨k,ek,rfl⟩:=zdd hm
   have A:=hs M X xs L h
   have q:=g.sx k (zbj ek) X L.fits x xs (semL Γ es) (by rw [L.sc];exact hx) A.2.2.2 A.2.1 (by rw [← zcQ];exact A.1)
   refine zbq (M:=M) (zal g.mono XN (.spc i es)) (q.1.imp fun τ H Q q=>?_) q.2.1 q.2.2
   obtain ⟨σ,G,hs',ab,q⟩:=q
   refine ⟨σ,G,hs',ab,?_⟩
   rw [← zcQ]
   refine zcF g.mono XN es σ G _ _ (fun ws G1 q=>?_) q
   simp only [ek] at q
   exact q
  .exact absurd h zzN
 .exact absurd h zzN
theorem s_mth (m:Nat) (o:IE) (es:IEs) (ho:OkE Γ p o) (hs:OkA Γ p es):OkE Γ p (.mth m o es):=by
  intro M X x L h
  cases x with
  |Call fn xs kw q =>
    cases fn with
    |Attribute l y qy =>
     cases kw with
     |nil =>
      replace h:=bd6 h
      simp only [decide_eq_true_eq] at h
      have hi:=zbP h.1.1.1.1.1
      rw [← L.mts] at hi
      obtain ⟨e,ei,rfl⟩:=zdd hi
      have A:=hs M X xs L h.2
      have B:=ho M X l L h.1.2
      refine zbq (M:=M) (zal g.mono XN (.mth m o es)) ((g.mt e (zbj ei) X L.fits l xs (sem Γ XN o).e (semA Γ XN es) qy q (zal g.mono XN o) (zcF g.mono XN es) h.1.1.1.1.2 h.1.1.1.2 h.1.1.2 A.2.1 B.1 A.1 (zfe g h.2)).imp fun τ H Q q=>?_) (fun _=>rfl) (fun _ _ _ z=>nomatch z)
      obtain ⟨σ,G,hs',ab,q⟩:=q
      refine ⟨σ,G,hs',ab,zal g.mono XN o σ G _ _ (fun w G1 q=>?_) q⟩
      simp only [ei] at q
      exact q
     |cons _ _=>exact absurd h zzN
    |_=>exact absurd h zzN
  |_=>exact absurd h zzN
theorem s_att (o:IE) (f:Str) (ho:OkE Γ p o):OkE Γ p (.att o f):=by
 intro M X x L h
 cases x with
 |Attribute l y q =>
  replace h:=bd3 h
  simp only [beq_iff_eq] at h
  obtain ⟨⟨rfl,h1⟩,h2⟩:=h
  refine zbq (M:=M) (zal g.mono XN (.att o y)) ((zp3 (ho M X l L h2).1 (zdh h1)).imp fun τ H Q q=>?_) (fun _=>rfl) (fun _ _ _ z=>nomatch z)
  obtain ⟨σ,G,hs,ab,q⟩:=q
  refine za5 (zal g.mono XN o) hs ab q fun w G1 v H1 g1 hs1 rx a1 q=>?_
  cases w with
  |ref a =>
   cases rx
   simp only [attR] at q
   split at q
   .rename_i C fs e
    obtain ⟨⟨l,hl,hf⟩,q⟩:=q
    split at q
    .rename_i w' ew
     obtain ⟨dx,fs',e',rk⟩:=a1.ins e
     obtain ⟨v',ev,rv⟩:=zeO rk ew
     have c:=g.cl _ hl
     exact ⟨a,C,dx,fs',v',rfl,e',by rw [L.fits.K];exact c.1,by rw [L.fits.K];exact c.2 y hf,ev,q _ H1 g1 rv a1⟩
    .exact q.elim
   .exact q.elim
  |_=>exact q.elim
 |_=>exact absurd h zzN
end
end L3
set_option Elab.async false
set_option linter.all false
set_option maxRecDepth 100000
set_option maxHeartbeats 8000000
namespace L3
open PySem PySem.Spec PyProof.Rows L2 PySem.SeqAt
section
variable {Γ : Ctx3} {p : Par} (g : Good Γ p)
include g
theorem s_dct (ks:List Str) (es:IEs) (hs:OkA Γ p es):OkE Γ p (.dct ks es):=by
 intro M X x L h
 cases x with
 |Dict keys xs q =>
  replace h:=bd5 h
  simp only [decide_eq_true_eq,Bool.not_eq_true'] at h
  obtain ⟨⟨⟨⟨h1,h2⟩,h3⟩,h4⟩,h5⟩:=h
  obtain ⟨all,ek,trs,pp,low⟩:=(hs M X xs L h2).2.2.1 ks keys q h1 h3
  have h0:keys≠[]:=by
   intro z;rw [z] at ek
   cases ks with
   |nil=>cases h5
   |cons _ _=>cases ek
  refine zbq (M:=M) (zal g.mono XN (.dct ks es)) ((zn4 pp all h3 h0 h4).imp fun τ H Q q=>?_) (fun _=>rfl) (fun _ _ _ z=>nomatch z)
  intro a ha
  obtain ⟨σ,G,hs',ab,q⟩:=q
  have gr:Grow X.K H (upd H a (.dK [])):=zaU ha
  refine low τ _ _ ⟨σ,put G a (.dic []),hs'.mono gr,ab.new ha ⟨[],rfl,rfl⟩,zcF g.mono XN es σ _ _ _ (fun ws G1 q vs H1 g1 rs a1=>?_) (q a (ab.free ha))⟩
  obtain ⟨q1,q2,q3⟩:=q
  obtain ⟨l,e,rl⟩:=a1.dic q1
  have el:l=[]:=by
   cases l with
   |nil=>rfl
   |cons _ _=>cases rl
  subst el
  refine ⟨e,(ks.zip vs).map (fun kv=>((Sum.inr kv.1:Key),kv.2)),by rw [List.map_map];rfl,?_,?_⟩
  .rw [List.length_map,List.length_zip];omega
  .have gr2:Grow X.K H1 (upd H1 a (.dK (zeH [] ((ks.zip vs).map fun kv=>((Sum.inr kv.1:Key),kv.2))))):=a1.grow q1
   exact q3 _ _ (gr.trans (g1.trans gr2)) rfl (a1.chg q1 ⟨_,rfl,zkW ks (rs.mono gr2) rfl⟩)
 |_=>exact absurd h zzN
theorem zgd (tg:ITg) (names:List Str) (caps:List Nat) (it:II) (c:IO) (elt:IE) (hi:OkI Γ p it) (hc:OkO Γ p c) (he:OkE Γ p elt) {M:MC} {X:Cx} (L:Lk Γ M p X) {x t ix:Expr} {ifs:List Expr} {sc:Scope}
  (h:(blkB M.sc sc&&zfr ix&&zgr (names++caps.map (fun j=>M.N.getD j Str.empty))&&(caps.all fun j=>decide (j<M.N.length)&&!((relS sc M.sc).names.lookup (M.N.getD j Str.empty)==some .local)) &&
    mI it M ix&&((tgIx tg).all fun i=>decide (i<names.length))&&mG { M with sc:=relS sc M.sc,N:=names++caps.map (fun j=>M.N.getD j Str.empty),own:=false } tg t&&mC c { M with sc:=relS sc M.sc,N:=names++caps.map (fun j=>M.N.getD j Str.empty),own:=false } ifs&&mE elt { M with sc:=relS sc M.sc,N:=names++caps.map (fun j=>M.N.getD j Str.empty),own:=false } x)=true) :
  PI X t ix (lowI X.K (semI Γ XN it))/\BlkSc X sc/\Caps X sc (names++caps.map (fun j=>M.N.getD j Str.empty)) (capV names.length caps) /\
  (∀ X',IsBlock X (names++caps.map (fun j=>M.N.getD j Str.empty)) sc X'->PG X' t (lowG X.K (semG tg)))/\(∀ X',IsBlock X (names++caps.map (fun j=>M.N.getD j Str.empty)) sc X'->PTs X' ifs (lowT X.K (semC Γ c))) /\
  (∀ X',IsBlock X (names++caps.map (fun j=>M.N.getD j Str.empty)) sc X'->PE X' x (lowE X.K (sem Γ XN elt).e))/\(∀ y,foldedSetIterable ix X.env y=pure y) /\
  ∀ τ H Q,lowE X.K (sem Γ XN (.lc tg names caps it c elt)).e τ H Q->tLC (lowI X.K (semI Γ XN it)) (capV names.length caps) (lowG X.K (semG tg)) (lowT X.K (semC Γ c)) (lowE X.K (sem Γ XN elt).e) τ H Q:=by
 simp only [Bool.and_eq_true] at h
 obtain ⟨⟨⟨⟨⟨⟨⟨⟨h1,h2⟩,h3⟩,h4⟩,h5⟩,h6⟩,h7⟩,h8⟩,h9⟩:=h
 have lk:∀ X',IsBlock X (names++caps.map (fun j=>M.N.getD j Str.empty)) sc X'->Lk Γ { M with sc:=relS sc M.sc,N:=names++caps.map (fun j=>M.N.getD j Str.empty),own:=false } p X':=fun X' b =>
  ⟨⟨b.prog.trans L.fits.prog,b.w.trans L.fits.w,b.K.trans L.fits.K,b.mg.trans L.fits.mg,b.base.trans L.fits.base,b.A.trans L.fits.A,b.calm.trans L.fits.calm,b.xe⟩,b.N,b.scope.trans (zj8 L.sc),zis h3,(fun z=>nomatch z),(znt L.sc h1).kind,L.fns,L.gls,L.mts,L.its,L.sxs,L.ixs⟩
 refine ⟨hi M X ix L h5 t,znt L.sc h1,zk2 L.N L.sc h4,fun X' b=>?_,fun X' b=>?_,fun X' b=>?_,zgS h2,fun τ H Q q=>?_⟩
 .rw [← b.K];exact sndG (lk X' b) tg t h7
 .rw [← b.K];exact (hc _ X' (lk X' b)).2 ifs h8
 .rw [← b.K];exact (he _ X' x (lk X' b) h9).1
 .obtain ⟨σ,G,hs,ab,q⟩:=q
  refine ⟨σ,G,hs,ab,zqi g.mono XN it σ G _ _ (fun items stab G1 q J H1 g1 a1 ii=>?_) q⟩
  refine zqp (monoC g.mono c) (zal g.mono XN elt) ii a1 (zo3 (hs.mono g1) names.length caps) g1 (fun w G' Q' z=>?_) q
  refine zgD tg w _ G' _ _ (fun σ2 G2 z=>⟨⟨z.2.1,fun i v e=>?_⟩,z.2.2⟩) (zik tg w _ G' _ (zjV tg w _ G' _ z))
  have hk:=(zhS e).1
  rw [z.1 i (zoe h6 hk)]
  exact e
theorem s_lc (tg:ITg) (names:List Str) (caps:List Nat) (it:II) (c:IO) (elt:IE) (hi:OkI Γ p it) (hc:OkO Γ p c) (he:OkE Γ p elt):OkE Γ p (.lc tg names caps it c elt):=by
 intro M X x L h
 cases x with
 |ListComp x gens sc q =>
  match gens,h with
  | [⟨t,ix,ifs,asy⟩],h =>
   have h':=h
   replace h:=bd10 h
   obtain ⟨⟨⟨⟨⟨⟨⟨⟨⟨h0,h1⟩,h2⟩,h3⟩,h4⟩,h5⟩,h6⟩,h7⟩,h8⟩,h9⟩:=h
   replace h0:=of_decide_eq_true h0
   subst h0
   obtain ⟨c1,c2,c3,c4,c5,c6,c7,c8⟩:=zgd g tg names caps it c elt hi hc he L (x:=x) (t:=t) (ix:=ix) (ifs:=ifs) (sc:=sc) (by simp only [Bool.and_eq_true];exact ⟨⟨⟨⟨⟨⟨⟨⟨h1,h2⟩,h3⟩,h4⟩,h5⟩,h6⟩,h7⟩,h8⟩,h9⟩)
   exact zbq (M:=M) (zal g.mono XN (.lc tg names caps it c elt)) ((pe_lc L.fits.calm c1 c2 c3 c4 c5 c6 c7).imp c8) (fun _=>rfl) (fun _ _ _ z=>nomatch z)
 |_=>exact absurd h zzN
theorem s_no:OkO Γ p .no:=by
 intro M X L
 refine ⟨fun x h=>?_,fun xs h=>?_⟩
 .cases x with
  |none=>exact zn0.imp fun τ H Q q=>by obtain ⟨σ,G,hs,ab,q⟩:=q;exact q H .refl ab
  |some _=>exact absurd h zzN
 .cases xs with
  |nil=>exact znQ.imp fun τ H Q q=>by obtain ⟨σ,G,hs,ab,q⟩:=q;exact q H .refl ab
  |cons _ _=>exact absurd h zzN
theorem zpz (e:IE) (he:OkE Γ p e):OkO Γ p (.yes e):=by
 intro M X L
 refine ⟨fun x h=>?_,fun xs h=>?_⟩
 .cases x with
  |none=>exact absurd h zzN
  |some x =>
   skip
   refine (znZ (he M X x L h).1).imp fun τ H Q q=>?_
   obtain ⟨σ,G,hs,ab,q⟩:=q
   refine za5 (zal g.mono XN e) hs ab q fun w G1 v H1 g1 hs1 rx a1 q=>?_
   cases w with
   |int i=>cases rx;exact ⟨i,rfl,q H1 g1 a1⟩
   |_=>exact q.elim
 .match xs,h with
  | [x],h=>exact znP (he M X x L (by simpa only [mC] using h)).2.1
theorem zpB:OkA Γ p .nil:=by
 intro M X xs L h
 cases xs with
 |cons _ _=>exact absurd h zzN
 |nil =>
  refine ⟨zp6.imp fun τ H Q q=>by obtain ⟨σ,G,hs,ab,q⟩:=q;exact q [] H .refl rfl ab,rfl,fun ks keys pos hk hl=>?_,trivial⟩
  cases keys with
  |cons _ _=>cases hl
  |nil =>
   cases ks with
   |cons _ _=>cases hk
   |nil =>
    refine ⟨rfl,rfl,[],znY,fun τ H Q q=>?_⟩
    obtain ⟨σ,G,hs,ab,q⟩:=q
    exact q [] H .refl rfl ab
theorem zm5 (e:IE) (es:IEs) (he:OkE Γ p e) (hs:OkA Γ p es):OkA Γ p (.cons e es):=by
  intro M X xs L h
  cases xs with
  |nil=>exact absurd h zzN
  |cons x xs =>
    simp only [mA,Bool.and_eq_true] at h
    obtain ⟨⟨h1,h2⟩,h3⟩:=h
    have A:=he M X x L h2
    have B:=hs M X xs L h3
    refine ⟨(zn8 A.1 B.1 (zbF h1)).imp fun τ H Q q=>?_,by rw [List.all_cons,h1,B.2.1];rfl,fun ks keys pos hk hl=>?_,⟨zal g.mono XN e,A.1,B.2.2.2⟩⟩
    . obtain ⟨σ,G,hs',ab,q⟩:=q
      refine za5 (zal g.mono XN e) hs' ab q fun w G1 v H1 g1 hs1 rx a1 q=>?_
      refine zfL (zcF g.mono XN es) hs1 a1 q fun ws G2 vs H2 g2 hs2 rs a2 q=>?_
      exact q _ H2 (g1.trans g2) ⟨v,vs,rfl,rx.mono g2,rs⟩ a2
    . cases ks with
      |nil =>
        cases keys with
        |nil=>simp at hl
        |cons _ _=>simp [keyB] at hk
      |cons k ks =>
       cases keys with
       |nil=>cases hk
       |cons ko keys =>
        obtain ⟨y,ky,qy,rfl⟩:∃ y ky qy,ko=some (.Constant (.str y) ky qy):=by
          cases ko with
          |none=>cases hk
          |some ke =>
            cases ke with
            |Constant c ky qy =>
              cases c with
              |str y=>exact ⟨y,ky,qy,rfl⟩
              |_=>cases hk
            |_=>cases hk
        simp only [keyB,Bool.and_eq_true,beq_iff_eq] at hk
        obtain ⟨rfl,hk⟩:=hk
        obtain ⟨all,ek,trs,pp,low⟩:=B.2.2.1 ks keys pos hk (by simpa using hl)
        refine ⟨by simpa using all,by simpa using ek,(tC (.str k),lowE X.K (sem Γ XN e).e)::trs,zlT znc A.1 pp,fun τ H Q q=>?_⟩
        obtain ⟨σ,G,hs',ab,q⟩:=q
        show lowE X.K (sem Γ XN e).e τ H _
        refine za5 (zal g.mono XN e) hs' ab q fun w G1 v H1 g1 hs1 rx a1 q=>?_
        refine low τ H1 _ ⟨σ,G1,hs1,a1,zcF g.mono XN es σ G1 _ _ (fun ws G2 q vs H2 g2 rs a2=>?_) q⟩
        exact q (v::vs) H2 (g1.trans g2) ⟨v,vs,rfl,rx.mono g2,rs⟩ a2
theorem zpA (e:IE) (he:OkE Γ p e):OkI Γ p (.val e):=fun M X x L h tg=>zpU (zal g.mono XN e) (he M X x L h).1
theorem zpD (i:Nat) (es:IEs) (hs:OkA Γ p es):OkI Γ p (.blt i es):=by
  intro M X x L h tg
  cases x with
  |Call fn xs kw q =>
    cases fn with
    |Name y qy =>
     cases kw with
     |nil =>
      replace h:=bd3 h
      have gl:=zkM L.sc h.1.2
      have hi:=zbP h.1.1
      rw [← L.its] at hi
      obtain ⟨e,ei,rfl⟩:=zdd hi
      have A:=hs M X xs L h.2
      refine (g.it e (zbj ei) X L.fits gl.1 tg xs (semA Γ XN es) qy q (zcF g.mono XN es) A.2.1 A.1 (zfe g h.2) gl.2.1 gl.2.2).imp fun τ H R q=>?_
      obtain ⟨σ,G,hs',ab,q⟩:=q
      refine ⟨σ,G,hs',ab,zcF g.mono XN es σ G _ _ (fun ws G1 q=>?_) q⟩
      simp only [ei] at q
      exact q
     |cons _ _=>exact absurd h zzN
    |_=>exact absurd h zzN
  |_=>exact absurd h zzN
theorem zm4 (i:Nat) (es:IEs) (hs:OkA Γ p es):OkI Γ p (.spc i es):=by
 intro M X x L h tg
 simp only [mI] at h
 split at h
 .rename_i m hm
  split at h
  .rename_i xs hx
   rw [← L.ixs] at hm
   obtain ⟨k,ek,rfl⟩:=zdd hm
   have A:=hs M X xs L h
   refine (g.ix k (zbj ek) X L.fits tg x xs (semL Γ es) (by rw [L.sc];exact hx) A.2.2.2 A.2.1 (by rw [← zcQ];exact A.1)).imp fun τ H R q=>?_
   obtain ⟨σ,G,hs',ab,q⟩:=q
   refine ⟨σ,G,hs',ab,?_⟩
   rw [← zcQ]
   refine zcF g.mono XN es σ G _ _ (fun ws G1 q=>?_) q
   simp only [ek] at q
   exact q
  .exact absurd h zzN
 .exact absurd h zzN
theorem sndE (e:IE):OkE Γ p e :=
 IE.rec (motive_1:=OkE Γ p) (motive_2:=OkO Γ p) (motive_3:=OkA Γ p) (motive_4:=OkI Γ p) (motive_5:=fun _=>True) (motive_6:=fun _=>True)
  (s_var g) (s_con g) (s_glb g) (s_bin g) (s_neg g) (s_not g) (s_cmp g) (s_chn g) (s_and g) (s_or g) (s_ite g) (s_ix g) (s_sl g) (s_tup g) (s_lst g) (s_dct g) (zpC g) (s_mth g) (s_att g)
  (fun tg names caps it c elt _ hi hc he=>s_lc g tg names caps it c elt hi hc he) (s_spc g) (s_ch3 g) (s_no g) (zpz g) (zpB g) (zm5 g) (zpA g) (zpD g) (zm4 g) (fun _=>trivial) (fun _ _=>trivial) trivial (fun _ _ _ _=>trivial) e
theorem sndA (es:IEs):OkA Γ p es:=match es with
 | .nil=>zpB g
 | .cons e es=>zm5 g e es (sndE g e) (sndA es)
theorem sndI (it:II):OkI Γ p it:=match it with
 | .val e=>zpA g e (sndE g e)
 | .blt i es=>zpD g i es (sndA g es)
 | .spc i es=>zm4 g i es (sndA g es)
theorem sndO (o:IO):OkO Γ p o:=match o with
 | .no=>s_no g
 | .yes e=>zpz g e (sndE g e)
end
end L3
set_option Elab.async false
set_option linter.all false
set_option maxRecDepth 100000
set_option maxHeartbeats 8000000
namespace L3
open PySem PySem.Spec PyProof.Rows L2
theorem zoA {i:Nat} {a:IE} {M:MC} {x:Stmt} (h:mS (.asg i a) M x=true):∃ y py v q,x=.Assign [.Name y py] v q/\(M.N[i]?==some y)=true/\locB M y=true/\mE a M v=true:=by
 cases x with
 |Assign ts v q =>
  cases ts with
  |nil=>exact absurd h zzN
  |cons t r =>
   cases r with
   |cons _ _=>cases t <;> exact absurd h zzN
   |nil =>
    cases t with
    |Name y py =>
     replace h:=bd3 h
     exact ⟨y,py,v,q,rfl,h.1.1,h.1.2,h.2⟩
    |_=>exact absurd h zzN
 |_=>exact absurd h zzN
theorem zmy {ts:ITgs} {a:IE} {M:MC} {x:Stmt} (h:mS (.asgT ts a) M x=true):∃ es k qt v q,x=.Assign [.Tuple es k qt] v q/\noLC v=true/\zqf v=true/\mGs M ts es=true/\mE a M v=true:=by
 cases x with
 |Assign ts v q =>
  cases ts with
  |nil=>exact absurd h zzN
  |cons t r =>
   cases r with
   |cons _ _=>cases t <;> exact absurd h zzN
   |nil =>
    cases t with
    |Tuple es k qt =>
     replace h:=bd4 h
     exact ⟨es,k,qt,v,q,rfl,h.1.1.1,h.1.1.2,h.1.2,h.2⟩
    |_=>exact absurd h zzN
 |_=>exact absurd h zzN
theorem zmz {o i a:IE} {M:MC} {x:Stmt} (h:mS (.asgI o i a) M x=true):∃ l r qs v q,x=.Assign [.Subscript l r qs] v q/\noLC v=true/\zfq r=true/\mE o M l=true/\mE i M r=true/\mE a M v=true:=by
 cases x with
 |Assign ts v q =>
  cases ts with
  |nil=>exact absurd h zzN
  |cons t r =>
   cases r with
   |cons _ _=>cases t <;> exact absurd h zzN
   |nil =>
    cases t with
    |Subscript l r qs =>
     replace h:=bd5 h
     exact ⟨l,r,qs,v,q,rfl,h.1.1.1.1,h.1.1.1.2,h.1.1.2,h.1.2,h.2⟩
    |_=>exact absurd h zzN
 |_=>exact absurd h zzN
theorem zmA {o a:IE} {f:Str} {M:MC} {x:Stmt} (h:mS (.asgA o f a) M x=true):∃ l qs v q,x=.Assign [.Attribute l f qs] v q/\noLC v=true/\mE o M l=true/\mE a M v=true:=by
 cases x with
 |Assign ts v q =>
  cases ts with
  |nil=>exact absurd h zzN
  |cons t r =>
   cases r with
   |cons _ _=>cases t <;> exact absurd h zzN
   |nil =>
    cases t with
    |Attribute l y qs =>
     replace h:=bd4 h
     simp only [beq_iff_eq] at h
     obtain ⟨⟨⟨rfl,h2⟩,h3⟩,h4⟩:=h
     exact ⟨l,qs,v,q,rfl,h2,h3,h4⟩
    |_=>exact absurd h zzN
 |_=>exact absurd h zzN
theorem zqO {a:IE} {M:MC} {x:Stmt} (h:mS (.ex a) M x=true):∃ v q,x=.Expr v q/\noLC v=true/\mE a M v=true:=by
 cases x with
 |Expr v q =>
  replace h:=bd2 h
  exact ⟨v,q,rfl,h.1,h.2⟩
 |_=>exact absurd h zzN
theorem zor {a:IE} {M:MC} {x:Stmt} (h:mS (.ret a) M x=true):∃ v q,x=.Return (some v) q/\mE a M v=true:=by
 cases x with
 |Return v q =>
  cases v with
  |none=>exact absurd h zzN
  |some v=>exact ⟨v,q,rfl,h⟩
 |_=>exact absurd h zzN
theorem zmv {M:MC} {x:Stmt} (h:mS .retN M x=true):∃ q,x=.Return none q:=by
 cases x with
 |Return v q =>
  cases v with
  |none=>exact ⟨q,rfl⟩
  |some v=>exact absurd h zzN
 |_=>exact absurd h zzN
theorem zmw {M:MC} {x:Stmt} (h:mS .pass M x=true):∃ q,x=.Pass q:=by
 cases x with
 |Pass q=>exact ⟨q,rfl⟩
 |_=>exact absurd h zzN
theorem zoz {M:MC} {x:Stmt} (h:mS .brk M x=true):∃ q,x=.Break q:=by
 cases x with
 |Break q=>exact ⟨q,rfl⟩
 |_=>exact absurd h zzN
theorem zov {M:MC} {x:Stmt} (h:mS .cnt M x=true):∃ q,x=.Continue q:=by
 cases x with
 |Continue q=>exact ⟨q,rfl⟩
 |_=>exact absurd h zzN
theorem zot {c:IE} {a b:ISs} {M:MC} {x:Stmt} (h:mS (.ite c a b) M x=true):∃ t y z q,x=.If t y z q/\mE c M t=true/\mSs a M y=true/\mSs b M z=true:=by
 cases x with
 |If t y z q =>
  replace h:=bd3 h
  exact ⟨t,y,z,q,rfl,h.1.1,h.1.2,h.2⟩
 |_=>exact absurd h zzN
theorem zoq {c:IE} {b:ISs} {M:MC} {x:Stmt} (h:mS (.whl c b) M x=true):∃ t y q,x=.While t y [] q/\mE c M t=true/\mSs b M y=true:=by
 cases x with
 |While t y z q =>
  cases z with
  |nil =>
   replace h:=bd2 h
   exact ⟨t,y,q,rfl,h.1,h.2⟩
  |cons _ _=>exact absurd h zzN
 |_=>exact absurd h zzN
theorem zou {tg:ITg} {it:II} {b:ISs} {M:MC} {x:Stmt} (h:mS (.for tg it b) M x=true):∃ t y z q,x=.For t y z [] q/\zfr y=true/\mG M tg t=true/\mI it M y=true/\mSs b M z=true:=by
 cases x with
 |For t y z e q =>
  cases e with
  |nil =>
   replace h:=bd4 h
   exact ⟨t,y,z,q,rfl,h.1.1.1,h.1.1.2,h.1.2,h.2⟩
  |cons _ _=>exact absurd h zzN
 |_=>exact absurd h zzN
theorem zos {M:MC} {x:List Stmt} (h:mSs .nil M x=true):x=[]:=by
 cases x with
 |nil=>rfl
 |cons _ _=>exact absurd h zzN
theorem zmx {s:IS} {ss:ISs} {M:MC} {x:List Stmt} (h:mSs (.cons s ss) M x=true):∃ y ys,x=y::ys/\mS s M y=true/\mSs ss M ys=true:=by
 cases x with
 |nil=>exact absurd h zzN
 |cons y ys =>
  replace h:=bd2 h
  exact ⟨y,ys,rfl,h.1,h.2⟩
end L3
set_option Elab.async false
set_option linter.all false
set_option maxRecDepth 100000
set_option maxHeartbeats 8000000
namespace L3
open PySem PySem.Spec PyProof.Rows L2 PySem.SeqAt
theorem ziq {K:Frg} {H:Hp} {f:Str} {w:W} {v:V} (q:Rep K H w v):∀ {l:List (Str×W)} {l':List (Str×V)},zaL K H l l'->zaL K H (zcS f w l) (putF f v l')
 | [],_,h=>by rw [show _=[] from h];exact ⟨v,[],rfl,q,rfl⟩
 | (n,u)::r,_,⟨x,t,e,h,hr⟩=>by
  subst e
  unfold zcS putF
  by_cases hn:n=f
  .rw [if_pos hn,if_pos hn];exact ⟨v,t,rfl,q,hr⟩
  .rw [if_neg hn,if_neg hn];exact ⟨x,_,rfl,h,ziq q hr⟩
section
variable {Γ : Ctx3} {p : Par} (g : Good Γ p)
def OkS (Γ:Ctx3) (p:Par) (s:IS):Prop:=∀ M X x,Lk Γ M p X->mS s M x=true->PS X x (lowS X.K (semS Γ XN s))
def OkSs (Γ:Ctx3) (p:Par) (s:ISs):Prop:=∀ M X x,Lk Γ M p X->mSs s M x=true->PSs X x (lowS X.K (zaf Γ XN s))
include g
theorem t_asg (i:Nat) (e:IE):OkS Γ p (.asg i e):=by
 intro M X x L h
 obtain ⟨y,py,v,q,rfl,h1,h2,h3⟩:=zoA h
 .
  have lo:=znl L h2
  have hN:=zbP h1
  rw [← L.N] at hN
  have nd:X.N.Nodup:=L.N▸L.nd
  have low:∀ (te:TE),(∀ τ H Q,lowE X.K (sem Γ XN e).e τ H Q->te τ H Q)->∀ D τ H,lowS X.K (semS Γ XN (.asg i e)) D τ H->tAsg te (zmF i) D τ H:=fun te k D τ H hq=>by
   obtain ⟨σ,G,D3,hs,ab,f,hq⟩:=hq
   refine k _ _ _ ⟨σ,G,hs,ab,zal g.mono XN e σ G _ _ (fun w G' hq v' H' g' rp ab'=>?_) hq⟩
   exact f.nx _ G' _ H' g' ((hs.mono g').set rp i) ab' hq
  by_cases hl:noLC v=true
  .exact (zna (i:=i) nd hN lo.1 (sndE g e M X v L h3).1 (zcP hl) lo.2).imp (low _ fun _ _ _ z=>z)
  .cases v with
   |ListComp x gens sc qq =>
    cases e with
    |lc tg names caps it c elt =>
     match gens,h3 with
     | [⟨t,ix,ifs,asy⟩],h3 =>
      have h3':=h3
      replace h3:=bd10 h3
      obtain ⟨⟨⟨⟨⟨⟨⟨⟨⟨z0,z1⟩,z2⟩,z3⟩,z4⟩,z5⟩,z6⟩,z7⟩,z8⟩,z9⟩:=h3
      replace z0:=of_decide_eq_true z0
      subst z0
      have cond:∃ b,swapsWith (.ListComp x [⟨t,ix,ifs,0⟩] sc qq) (some (.Name y py)) q.line X.env=pure b:=⟨_,rfl⟩
      obtain ⟨b,hb⟩:=cond
      cases b with
      |false=>exact (zna (i:=i) nd hN lo.1 (sndE g _ M X _ L h3').1 hb lo.2).imp (low _ fun _ _ _ z=>z)
      |true =>
       obtain ⟨c1,c2,c3,c4,c5,c6,c7,c8⟩:=zgd g tg names caps it c elt (sndI g it) (sndO g c) (sndE g elt) L (x:=x) (t:=t) (ix:=ix) (ifs:=ifs) (sc:=sc) (by simp only [Bool.and_eq_true];exact ⟨⟨⟨⟨⟨⟨⟨⟨z1,z2⟩,z3⟩,z4⟩,z5⟩,z6⟩,z7⟩,z8⟩,z9⟩)
       exact (zlP (i:=i) L.fits.calm c1 c2 c3 c4 c5 c6 nd hN lo.1 lo.2 hb c7).imp (low _ c8)
    |_=>exact absurd h3 zzN
   |SetComp _ _ _ _=>cases e <;> exact absurd h3 zzN
   |DictComp _ _ _ _ _=>cases e <;> exact absurd h3 zzN
   |_=>exact absurd rfl hl
theorem zpi (ts:ITgs) (e:IE):OkS Γ p (.asgT ts e):=by
 intro M X x L h
 obtain ⟨es,k,qt,v,q,rfl,h1,h2,h3,h4⟩:=zmy h
 .
  have pg:=sndG L (.tup ts) (.Tuple es k qt) h3
  refine (zpR (sndE g e M X v L h4).1 pg (by unfold swapsWithSole;exact zcP h1) (by cases v <;> first | rfl | cases h2) rfl).imp fun D τ H hq=>?_
  obtain ⟨σ,G,D3,hs,ab,f,hq⟩:=hq
  refine ⟨σ,G,hs,ab,zal g.mono XN e σ G _ _ (fun w G' hq v' H' g' rp ab'=>?_) hq⟩
  exact ⟨w,σ,G',rp,hs.mono g',ab',zgD _ w σ G' _ _ (fun σ2 G2 hq τ2 H2 g2 hs2 a2=>f.nx σ2 G2 τ2 H2 (g'.trans g2) hs2 a2 hq) hq⟩
theorem zpj (o i e:IE):OkS Γ p (.asgI o i e):=by
 intro M X x L h
 obtain ⟨l,r,qs,v,q,rfl,h1,h2,h3,h4,h5⟩:=zmz h
 .
  have pe:=(sndE g e M X v L h5).1
  have po:=(sndE g o M X l L h3).1
  have pi:=(sndE g i M X r L h4).1
  intro pins s τ H D I hq
  obtain ⟨σ,G,D3,hs,ab,f,hq⟩:=hq
  have q1:lowE X.K (sem Γ XN e).e τ H fun v H1=>lowE X.K (sem Γ XN o).e τ H1 fun ov H2=>lowE X.K (sem Γ XN i).e τ H2 fun iv H3=>znk X.K ov iv v H3 fun H4=>D.nx τ H4:=by
   refine za5 (zal g.mono XN e) hs ab hq fun w G1 v1 H1 g1 hs1 r1 a1 hq=>?_
   refine za5 (zal g.mono XN o) hs1 a1 hq fun x G2 v2 H2 g2 hs2 r2 a2 hq=>?_
   refine za5 (zal g.mono XN i) hs2 a2 hq fun y G3 v3 H3 g3 hs3 r3 a3 hq=>?_
   exact ⟨x,y,w,G3,r2.mono g3,r3,(r1.mono g2).mono g3,a3,zjT (fun G4 hq H4 g4 a4=>f.nx σ G4 τ H4 (g1.trans (g2.trans (g3.trans g4))) (hs3.mono g4) a4 hq) hq⟩
  refine wpAny_Assign_Subscript (thn (pe pins s τ H _ I q1) fun u1 s1 ⟨v1,H1,I1,r1,q1⟩=>thn (po pins s1 τ H1 _ I1 q1) fun u2 s2 ⟨v2,H2,I2,r2,q2⟩=>thn (pi pins s2 τ H2 _ I2 q2) fun u3 s3 ⟨v3,H3,I3,r3,q3⟩=>?_) (zcP h1)
  exact thn (zpy (hu_X g L) pins s3 τ H3 v2 v3 v1 u2 u3 u1 _ I3 r2 r3 r1 q3) fun _ s4 ⟨H4,I4,q4⟩=>⟨τ,H4,I4,q4⟩
theorem zpk (o:IE) (f:Str) (e:IE):OkS Γ p (.asgA o f e):=by
 intro M X x L h
 obtain ⟨l,qs,v,q,rfl,h2,h3,h4⟩:=zmA h
 .
  refine (zpQ (sndE g o M X l L h3).1 (sndE g e M X v L h4).1 (zcP h2)).imp fun D τ H hq=>?_
  obtain ⟨σ,G,D3,hs,ab,fi,hq⟩:=hq
  refine za5 (zal g.mono XN e) hs ab hq fun w G1 v1 H1 g1 hs1 r1 a1 hq=>?_
  refine za5 (zal g.mono XN o) hs1 a1 hq fun x G2 v2 H2 g2 hs2 r2 a2 hq=>?_
  cases x with
  |ref a =>
   cases r2
   simp only [satR] at hq
   split at hq
   .rename_i C fs e2
    obtain ⟨⟨l2,hl,hf⟩,hlen,hq⟩:=hq
    obtain ⟨dx,fs',e',rk⟩:=a2.ins e2
    have c:=g.cl _ hl
    refine ⟨a,C,dx,fs',rfl,e',by rw [L.fits.K];exact c.1,by rw [L.fits.K];exact c.2 f hf,by rw [rk.length];exact hlen,?_⟩
    have gr:=a2.grow (u:=.ins C dx (putF f v1 fs')) e2
    exact fi.nx σ _ τ _ (g1.trans (g2.trans gr)) (hs2.mono gr) (a2.chg (o:=.ins C (zcS f w fs)) e2 ⟨dx,_,rfl,ziq ((r1.mono g2).mono gr) (rk.mono gr)⟩) hq
   .exact hq.elim
  |_=>exact hq.elim
theorem zcO:OkS Γ p .retN/\OkS Γ p .pass/\OkS Γ p .brk/\OkS Γ p .cnt/\OkS Γ p .dead:=by
 refine ⟨fun M X x L h=>?_,fun M X x L h=>?_,fun M X x L h=>?_,fun M X x L h=>?_,fun M X x L h=>?_⟩
 .obtain ⟨q,rfl⟩:=zmv h
  exact znT.imp fun D τ H hq=>by obtain ⟨σ,G,D3,hs,ab,f,hq⟩:=hq;exact f.rt .non G _ H .refl (show Rep X.K H .non .non from rfl) ab hq
 .obtain ⟨q,rfl⟩:=zmw h
  exact znU.imp fun D τ H hq=>by obtain ⟨σ,G,D3,hs,ab,f,hq⟩:=hq;exact f.nx σ G τ H .refl hs ab hq
 .obtain ⟨q,rfl⟩:=zoz h
  exact zlR.imp fun D τ H hq=>by obtain ⟨σ,G,D3,hs,ab,f,hq⟩:=hq;exact f.bk σ G τ H .refl hs ab hq
 .obtain ⟨q,rfl⟩:=zov h
  exact zhx.imp fun D τ H hq=>by obtain ⟨σ,G,D3,hs,ab,f,hq⟩:=hq;exact f.ct σ G τ H .refl hs ab hq
 .exact zlQ.imp fun D τ H hq=>by obtain ⟨σ,G,D3,hs,ab,f,hq⟩:=hq;exact hq.elim
theorem t_ex (e:IE):OkS Γ p (.ex e):=by
 intro M X x L h
 obtain ⟨v,q,rfl,hh⟩:=zqO h
 .have h:=hh
  refine (znV (sndE g e M X v L h.2).1 (zcP h.1)).imp fun D τ H hq=>?_
  obtain ⟨σ,G,D3,hs,ab,f,hq⟩:=hq
  exact za5 (zal g.mono XN e) hs ab hq fun w G1 v1 H1 g1 hs1 r1 a1 hq=>f.nx σ G1 τ H1 g1 hs1 a1 hq
theorem t_ret (e:IE):OkS Γ p (.ret e):=by
 intro M X x L h
 obtain ⟨v,q,rfl,hh⟩:=zor h
 .have h:=hh
  refine (zpO (sndE g e M X v L h).1).imp fun D τ H hq=>?_
  obtain ⟨σ,G,D3,hs,ab,f,hq⟩:=hq
  exact za5 (zal g.mono XN e) hs ab hq fun w G1 v1 H1 g1 hs1 r1 a1 hq=>f.rt w G1 v1 H1 g1 r1 a1 hq
theorem t_ite (c:IE) (a b:ISs) (ha:OkSs Γ p a) (hb:OkSs Γ p b):OkS Γ p (.ite c a b):=by
 intro M X x L h
 obtain ⟨t,y,z,q,rfl,hh⟩:=zot h
 .have h:=hh
  refine (ps_if (sndE g c M X t L h.1).2.1 (ha M X y L h.2.1) (hb M X z L h.2.2)).imp fun D τ H hq=>?_
  obtain ⟨σ,G,D3,hs,ab,f,hq⟩:=hq
  refine zhU (zft g.mono XN c) hs ab hq fun k G1 H1 g1 hs1 a1 hq=>?_
  split
  .rename_i hk
   rw [if_pos hk] at hq
   exact ⟨σ,G1,D3,hs1,a1,f.grow g1,hq⟩
  .rename_i hk
   rw [if_neg hk] at hq
   exact ⟨σ,G1,D3,hs1,a1,f.grow g1,hq⟩
theorem t_whl (c:IE) (b:ISs) (hb:OkSs Γ p b):OkS Γ p (.whl c b):=by
 intro M X x L h
 obtain ⟨t,y,q,rfl,hh⟩:=zoq h
 .have h:=hh
  have hp:PassesOwn (model X.prog X.w) X.A X.env X.xe:=by rw [L.fits.xe];exact PassesOwn.never
  refine (zlO hp (sndE g c M X t L h.1).2.1 (hb M X y L h.2)).imp fun D τ H hq=>?_
  obtain ⟨σ,G,D3,hs,ab,f,Pv,⟨m0,p0⟩,step⟩:=hq
  refine ⟨fun m τ H'=>Grow X.K H H'/\∃ σ G,zaK X.K H' σ τ/\Abs X.K H' G/\Pv m σ G,⟨m0,.refl,σ,G,hs,ab,p0⟩,?_⟩
  rintro m τ1 H1 ⟨g1,σ1,G1,hs1,a1,p1⟩
  refine zhU (zft g.mono XN c) hs1 a1 (step m σ1 G1 p1) fun k G2 H2 g2 hs2 a2 hq=>?_
  split
  .rename_i hk
   rw [if_pos hk] at hq
   refine ⟨fun τ' H'=>∃ m',m' < m/\Grow X.K H H'/\∃ σ G,zaK X.K H' σ τ'/\Abs X.K H' G/\Pv m' σ G,fun τ' H' z=>z,?_⟩
   refine ⟨σ1,G2,_,hs2,a2,⟨?_,?_,?_,?_⟩,hq⟩
   .rintro σ3 G3 τ3 H3 g3 hs3 a3 ⟨m',hm,p'⟩
    exact ⟨m',hm,g1.trans (g2.trans g3),σ3,G3,hs3,a3,p'⟩
   .exact fun σ3 G3 τ3 H3 g3 hs3 a3 z=>f.nx σ3 G3 τ3 H3 (g1.trans (g2.trans g3)) hs3 a3 z
   .rintro σ3 G3 τ3 H3 g3 hs3 a3 ⟨m',hm,p'⟩
    exact ⟨m',hm,g1.trans (g2.trans g3),σ3,G3,hs3,a3,p'⟩
   .exact fun w G3 v3 H3 g3 r3 a3 z=>f.rt w G3 v3 H3 (g1.trans (g2.trans g3)) r3 a3 z
  .rename_i hk
   rw [if_neg hk] at hq
   exact f.nx σ1 G2 τ1 H2 (g1.trans g2) hs2 a2 hq
theorem t_for (tg:ITg) (it:II) (b:ISs) (hb:OkSs Γ p b):OkS Γ p (.for tg it b):=by
 intro M X x L h
 obtain ⟨t,y,z,q,rfl,h1,h2,h3,h4⟩:=zou h
 .
  have hp:PassesOwn (model X.prog X.w) X.A X.env X.xe:=by rw [L.fits.xe];exact PassesOwn.never
  refine (zpP hp L.fits.calm (sndI g it M X y L h3 t) (sndG L tg t h2) (hb M X z L h4) (zgS h1)).imp fun D τ H hq=>?_
  obtain ⟨σ,G,D3,hs,ab,f,hq⟩:=hq
  refine ⟨σ,G,hs,ab,zqi g.mono XN it σ G _ _ (fun items stab G1 hq J H1 g1 a1 ii=>?_) hq⟩
  obtain ⟨Pv,p0,pst,step,fin⟩:=hq
  refine ⟨fun i m τ H'=>m+i=items.length/\Grow X.K H1 H'/\∃ σ G,zaK X.K H' σ τ/\Abs X.K H' G/\Pv i σ G,⟨items.length,rfl,.refl,σ,G1,hs.mono g1,a1,p0⟩,?_⟩
  rintro i m τ2 H2 ⟨hm,g2,σ2,G2,hs2,a2,p2⟩
  have st:=pst i σ2 G2 p2 (by omega)
  by_cases hi:i<items.length
  .refine .inr ⟨ii.go i H2 G2 g2 a2 st hi,fun τ' H'=>∃ m',m' < m/\(m'+(i+1)=items.length/\Grow X.K H1 H'/\∃ σ G,zaK X.K H' σ τ'/\Abs X.K H' G/\Pv (i+1) σ G),fun τ' H' z=>z,fun x H' yl=>?_⟩
   obtain ⟨w,ew,g3,rp,a3⟩:=ii.yld i H2 G2 x H' g2 a2 st hi yl
   refine ⟨w,σ2,G2,rp,hs2.mono g3,a3,zgD tg w σ2 G2 _ _ (fun σ4 G4 hq τ4 H4 g4 hs4 a4=>?_) (step i w σ2 G2 ew p2)⟩
   refine ⟨σ4,G4,_,hs4,a4,⟨?_,?_,?_,?_⟩,hq⟩
   .exact fun σ5 G5 τ5 H5 g5 hs5 a5 z=>⟨m - 1,by omega,by omega,g2.trans (g3.trans (g4.trans g5)),σ5,G5,hs5,a5,z⟩
   .exact fun σ5 G5 τ5 H5 g5 hs5 a5 z=>f.nx σ5 G5 τ5 H5 (g1.trans (g2.trans (g3.trans (g4.trans g5)))) hs5 a5 z
   .exact fun σ5 G5 τ5 H5 g5 hs5 a5 z=>⟨m - 1,by omega,by omega,g2.trans (g3.trans (g4.trans g5)),σ5,G5,hs5,a5,z⟩
   .exact fun w5 G5 v5 H5 g5 r5 a5 z=>f.rt w5 G5 v5 H5 (g1.trans (g2.trans (g3.trans (g4.trans g5)))) r5 a5 z
  .have ei:i=items.length:=by omega
   subst ei
   exact .inl ⟨ii.stop _ H2 G2 g2 a2 st (Nat.le_refl _),f.nx σ2 G2 τ2 H2 (g1.trans g2) hs2 a2 (fin σ2 G2 p2)⟩
theorem sndSs (s:ISs):OkSs Γ p s :=
 ISs.rec (motive_1:=OkS Γ p) (motive_2:=OkSs Γ p) (t_asg g) (zpi g) (zpj g) (zpk g) (t_ex g) (t_ret g) (zcO g).1 (zcO g).2.1 (zcO g).2.2.1 (zcO g).2.2.2.1
  (fun c a b ha hb=>t_ite g c a b ha hb) (fun c b hb=>t_whl g c b hb) (fun tg it b hb=>t_for g tg it b hb) (zcO g).2.2.2.2
  (fun M X x L h=>by
   cases zos h
   exact znS.imp fun D τ H hq=>by obtain ⟨σ,G,D3,hs,ab,f,hq⟩:=hq;exact f.nx σ G τ H .refl hs ab hq)
  (fun s ss hs1 hs2 M X x L h=>by
   obtain ⟨y,ys,rfl,hh⟩:=zmx h
   .have h:=hh
    refine (zlN (hs1 M X y L h.1) (hs2 M X ys L h.2)).imp fun D τ H hq=>?_
    obtain ⟨σ,G,D3,hs,ab,f,hq⟩:=hq
    refine ⟨σ,G,{ D3 with nx:=zaf Γ XN ss D3 },hs,ab,⟨?_,f.bk,f.ct,f.rt⟩,hq⟩
    exact fun σ2 G2 τ2 H2 g2 hs2 a2 z=>⟨σ2,G2,D3,hs2,a2,f.grow g2,z⟩) s
end
end L3
set_option Elab.async false
set_option linter.all false
set_option maxRecDepth 100000
set_option maxHeartbeats 8000000
namespace PySem
open Sem (wp)
section
variable {prog : Program} {w : World} {A : Around} {E : Value → Shared → Prop} {s : Shared}
def itc (b:Bool):String:=if b then "tuple_iterator" else "list_iterator"
def SIt (b:Bool) (h:Heap) (i l:Addr) (k:Nat):Prop:=∃ o,h.get? i=some o/\o.cls=.type (itc b)/\o.data=.fields #[.ref l,.int k 0]
def SSq (b:Bool) (h:Heap) (l:Addr) (its:Array Value):Prop:=match b with
 |true=>h.IsTuple l its
 |false=>h.IsList l its
theorem SIt.at {b:Bool} {h h':Heap} {i l:Addr} {k:Nat} (x:SIt b h i l k) (e:∀ o,h.get? i=some o->h'.get? i=some o):SIt b h' i l k:=let ⟨o,ho,r⟩:=x;⟨o,e _ ho,r⟩
theorem SSq.at {b:Bool} {h h':Heap} {l:Addr} {its:Array Value} (x:SSq b h l its) (e:∀ o,h.get? l=some o->h'.get? l=some o):SSq b h' l its:=by
 cases b
 .obtain ⟨o,ho,r⟩:=x;exact ⟨o,e _ ho,r⟩
 .obtain ⟨o,ho,r⟩:=x;exact ⟨o,e _ ho,r⟩
theorem SIt.eb {b:Bool} {h h':Heap} {i l c:Addr} {k:Nat} (x:SIt b h i l k) (e:Heap.ExtBut c h h') (n:i≠c):SIt b h' i l k:=x.at fun o q=>e _ o n q
theorem SSq.eb {b:Bool} {h h':Heap} {l c:Addr} {its:Array Value} (x:SSq b h l its) (e:Heap.ExtBut c h h') (n:l≠c):SSq b h' l its:=x.at fun o q=>e _ o n q
theorem zex {b:Bool} {l:Addr} {its:Array Value} {Q:Value->Shared->Prop} (h:SSq b s.heap l its)
  (hQ:Q (.ref s.heap.objs.size) { s with heap:=s.heap.push { cls:=.type (itc b),data:=.fields #[.ref l,.int 0 0] } }):wpAny (model prog w) A (pyIter (.ref l)) Q E s:=by
 cases b
 .exact wpAny_pyIter_list h hQ
 .exact wpAny_pyIter_tuple h hQ
abbrev drawIt (it : Addr) : Sem Value := Builtin.SmallTypes.nextOf (.ref it)
theorem tit_in {it : Addr} {Q : Value → Shared → Prop} (ty : s.TypeIs (.ref it) "tuple_iterator")
    (h : wpAny (model prog w) A.in1 (Builtin.«tuple_iterator.__next__» ⟨[.ref it], []⟩) (fun f s' => ∃ v, f = .done (.ret v) ∧ Q v s') E s) :
    wpAny (model prog w) A (drawIt it) Q E s := by
  have sl := F.slot_tuple_iterator_next
  apply wpAny_bind
  apply wpAny_callSpecial?_slot ty sl
  apply wpAny_call_entry sl ty F.entry_tuple_iterator_next _ (F.args_tuple_iterator_next_1 _)
  exact wpAny_mono h (fun _ _ ⟨v, e, q⟩ => ⟨v, e, wpAny_pure q⟩) fun _ _ e => e
theorem zdC {it t : Addr} {i : Nat} {items} {x : Value} {Q : Value → Shared → Prop} (hit : s.heap.IsTupleIter it t i) (ht : s.heap.IsTuple t items) (hx : items[i]? = some x)
    (hQ : ∀ h', h'.IsTupleIter it t (i + 1) → Heap.SameBut it s.heap h' → Q x { s with heap := h' }) :
    wpAny (model prog w) A (drawIt it) Q E s := by
  apply tit_in hit.typeIs
  obtain ⟨⟨c, di, da, sl⟩, g1, c1, d1⟩ := hit
  obtain ⟨⟨c2, di2, da2, sl2⟩, g2, c2', n2, d2⟩ := ht
  cases c1; cases d1; cases d2
  obtain ⟨hp, ge, dr, tk, os⟩ := s
  wp_walk using wpAny_loadPart' g2, wpAny_loadPart' g1
  rw [Int.toNat_natCast, hx]
  wp_walk using wpAny_loadPart' g1
  refine ⟨x, rfl, hQ _ ⟨_, Heap.get?_update_self _ g1 rfl, rfl, ?_⟩ (.update ..)⟩
  exact congrArg (fun z => Data.fields #[.ref t, z]) rfl
theorem zec {it t : Addr} {i : Nat} {items} {Q : Value → Shared → Prop} (hh : A.handled = none) (hit : s.heap.IsTupleIter it t i) (ht : s.heap.IsTuple t items) (hx : items[i]? = none)
    (hE : ∀ g e, Heap.ExtBut it s.heap g → (∃ o, g.get? e = some o ∧ o.cls = .type "StopIteration") → E (.ref e) { s with heap := g }) :
    wpAny (model prog w) A (drawIt it) Q E s := by
  apply tit_in hit.typeIs
  obtain ⟨⟨c, di, da, sl⟩, g1, c1, d1⟩ := hit
  obtain ⟨⟨c2, di2, da2, sl2⟩, g2, c2', n2, d2⟩ := ht
  cases c1; cases d1; cases d2
  obtain ⟨hp, ge, dr, tk, os⟩ := s
  have hh' : A.in1.handled = none := hh
  wp_walk using wpAny_loadPart' g2, wpAny_loadPart' g1
  rw [Int.toNat_natCast, hx]
  wp_walk using wpAny_loadPart' g1
  unfold raiseNew
  wp_walk
  exact hE _ _ (fun b o n z => Heap.get?_push_of_some _ (Heap.get?_push_of_some _ ((Heap.SameBut.update ..).extBut b o n z))) ⟨_, Heap.get?_push_size _ rfl, rfl⟩
theorem zcg {b:Bool} {it l:Addr} {i:Nat} {items:Array Value} {x:Value} {Q:Value->Shared->Prop} (hit:SIt b s.heap it l i) (hl:SSq b s.heap l items) (hx:items[i]?=some x)
  (hQ:∀ h',SIt b h' it l (i+1)->Heap.SameBut it s.heap h'->Q x { s with heap:=h' }):wpAny (model prog w) A (Builtin.SmallTypes.nextOf (.ref it)) Q E s:=by
 cases b
 .exact wpAny_nextOf_list_item hit hl hx hQ
 .exact zdC hit hl hx hQ
theorem zfc {b:Bool} {it l:Addr} {i:Nat} {items:Array Value} {Q:Value->Shared->Prop} (hh:A.handled=none) (hit:SIt b s.heap it l i) (hl:SSq b s.heap l items) (hx:items[i]?=none)
  (hE:∀ h' e,Heap.ExtBut it s.heap h'->(∃ o,h'.get? e=some o/\o.cls=.type "StopIteration")->E (.ref e) { s with heap:=h' }):wpAny (model prog w) A (Builtin.SmallTypes.nextOf (.ref it)) Q E s:=by
 cases b
 .exact wpAny_nextOf_list_end hh hit hl hx hE
 .exact zec hh hit hl hx hE
abbrev IsZ (h:Heap) (z TI TO:Addr) (f0 f1:Value):Prop :=
 h.get? z=some { cls:=.type "zip", dict:=none,data:=.fields #[f0,f1,.bool false,.ref TI,.ref TO],slots:=#[] }
end
abbrev zpH1 (a:Bool) (h:Heap) (l1:Addr):Heap:=h.push { cls:=.type (itc a),data:=.fields #[.ref l1,.int 0 0] }
abbrev zpH2 (a b:Bool) (h:Heap) (l1 l2:Addr):Heap:=(zpH1 a h l1).push { cls:=.type (itc b),data:=.fields #[.ref l2,.int 0 0] }
abbrev zpH3 (a b:Bool) (h:Heap) (l1 l2:Addr):Heap:=(zpH2 a b h l1 l2).push { cls:=.type "tuple", data:=.seq #[.ref h.objs.size,.ref (zpH1 a h l1).objs.size] }
abbrev zpH4 (a b:Bool) (h:Heap) (l1 l2:Addr):Heap:=(zpH3 a b h l1 l2).push { cls:=.type "tuple", data:=.seq #[.none,.none] }
abbrev zpH5 (a b:Bool) (h:Heap) (l1 l2:Addr):Heap:=(zpH4 a b h l1 l2).push { cls:=.type "zip", data:=.fields #[.none,.bool false,.bool false,.ref (zpH2 a b h l1 l2).objs.size,.ref (zpH3 a b h l1 l2).objs.size] }
theorem zgH (a b:Bool) (l1 l2:Addr) (xs ys:Array Value) :
  Meets (Builtin.«zip.__new__» ⟨[.type "zip", .ref l1,.ref l2],[]⟩) (fun _ R s=>SSq a s.heap l1 xs/\SSq b s.heap l2 ys /\
   R (.ok (.ret (.ref (zpH4 a b s.heap l1 l2).objs.size))) { s with heap:=zpH5 a b s.heap l1 l2 }) :=
 .of_wp fun prog w A R s h=>by
  obtain ⟨hp,g,d,tk,os⟩:=s;obtain ⟨hl1,hl2,h⟩:=h
  have hsub:=sub_zip
  have hL1:SSq a (Shared.heap ⟨hp,g,d,tk,os⟩) l1 xs:=hl1
  have hL2:SSq b (Shared.heap ⟨hp.push { cls:=.type (itc a),data:=.fields #[.ref l1,.int 0 0] },g,d,tk,os⟩) l2 ys:=hl2.at fun o e=>Heap.get?_push_of_some _ e
  wp_walk using zex hL1,zex hL2
  exact ⟨_,rfl,h⟩
section
variable {prog : Program} {w : World} {A : Around} {E : Value → Shared → Prop} {s : Shared}
theorem zo4 {a b:Bool} {l1 l2:Addr} {xs ys:Array Value} {Q:Value->Shared->Prop} (hl1:SSq a s.heap l1 xs) (hl2:SSq b s.heap l2 ys)
  (h:∀ h',IsZ h' (s.heap.objs.size+4) (s.heap.objs.size+2) (s.heap.objs.size+3) .none (.bool false)->IsPair h' (s.heap.objs.size+2) (.ref s.heap.objs.size) (.ref (s.heap.objs.size+1)) ->
   IsPair h' (s.heap.objs.size+3) .none .none->SIt a h' s.heap.objs.size l1 0->SIt b h' (s.heap.objs.size+1) l2 0->h'.objs.size=s.heap.objs.size+5 ->
   (∀ c o,s.heap.get? c=some o->h'.get? c=some o)->Q (.ref (s.heap.objs.size+4)) { s with heap:=h' }) :
  wpAny (model prog w) A (call (.type "zip") [.ref l1,.ref l2]) Q E s:=by
 refine callType_new F.called_zip (by decide) (F.typeCall_zip_2 _ _) (F.newCall_zip_2 _ _) (fun obj=>F.args_object_init_3 obj _ _) F.entry_zip_new
  (zgH a b l1 l2 xs ys) ⟨hl1,hl2,?_⟩
 have z1:(zpH1 a s.heap l1).objs.size=s.heap.objs.size+1:=Heap.size_push ..
 have z2:(zpH2 a b s.heap l1 l2).objs.size=s.heap.objs.size+2:=by rw [Heap.size_push,z1]
 have z3:(zpH3 a b s.heap l1 l2).objs.size=s.heap.objs.size+3:=by rw [Heap.size_push,z2]
 have z4:(zpH4 a b s.heap l1 l2).objs.size=s.heap.objs.size+4:=by rw [Heap.size_push,z3]
 have z5:(zpH5 a b s.heap l1 l2).objs.size=s.heap.objs.size+5:=by rw [Heap.size_push,z4]
 have g5:(zpH5 a b s.heap l1 l2).get? (zpH4 a b s.heap l1 l2).objs.size=some _:=Heap.get?_push_size _ rfl
 have g4:(zpH5 a b s.heap l1 l2).get? (zpH3 a b s.heap l1 l2).objs.size=some _:=Heap.get?_push_of_some _ (Heap.get?_push_size _ rfl)
 have g3:(zpH5 a b s.heap l1 l2).get? (zpH2 a b s.heap l1 l2).objs.size=some _:=Heap.get?_push_of_some _ (Heap.get?_push_of_some _ (Heap.get?_push_size _ rfl))
 have g2:(zpH5 a b s.heap l1 l2).get? (zpH1 a s.heap l1).objs.size=some _:=Heap.get?_push_of_some _ (Heap.get?_push_of_some _ (Heap.get?_push_of_some _ (Heap.get?_push_size _ rfl)))
 have g1:(zpH5 a b s.heap l1 l2).get? s.heap.objs.size=some _:=Heap.get?_push_of_some _ (Heap.get?_push_of_some _ (Heap.get?_push_of_some _ (Heap.get?_push_of_some _ (Heap.get?_push_size _ rfl))))
 show _/\_
 rw [z2,z3,z4] at g5
 rw [z1,z2] at g3
 rw [z3] at g4
 rw [z1] at g2
 rw [z4]
 exact ⟨⟨_,g5,rfl⟩,h _ g5 g3 g4 ⟨_,g1,rfl,rfl⟩ ⟨_,g2,rfl,rfl⟩ z5 fun c o x =>
  Heap.get?_push_of_some _ (Heap.get?_push_of_some _ (Heap.get?_push_of_some _ (Heap.get?_push_of_some _ (Heap.get?_push_of_some _ x))))⟩
end
end PySem
set_option Elab.async false
set_option linter.all false
set_option maxRecDepth 100000
set_option maxHeartbeats 8000000
namespace PySem
open Sem (wp)
section
variable {prog : Program} {w : World} {A : Around} {E : Value → Shared → Prop} {s : Shared}
theorem zbu {M : Model} {a : Addr} {Q : Option Obj → Shared → Prop} (h : Q (s.heap.get? a) s) : wpAny M A (loadIfAlive a) Q E s := fun Γ p hΓ => by
  unfold loadIfAlive
  rw [Sem.wp_loadIfAlive]
  exact wpAny_pure h Γ p hΓ
abbrev zTurn (z : Addr) : Sem Fin := Builtin.«zip.__next__» ⟨[.ref z], []⟩
abbrev zTold (Q : Value → Shared → Prop) (f : Fin) (s : Shared) : Prop := ∃ v, f = .done (.ret v) ∧ Q v s
abbrev But4 (z TO i1 i2 : Addr) (h h' : Heap) : Prop := ∀ c o, c ≠ z → c ≠ TO → c ≠ i1 → c ≠ i2 → h.get? c = some o → h'.get? c = some o
abbrev IsStop (h : Heap) (e : Addr) : Prop := ∃ o, h.get? e = some o ∧ o.cls = .type "StopIteration"
def Stp (p : Prop) : Prop := p
theorem stp_next {M : Model} {v : Value} {Q : Value → Shared → Prop} (h : Stp (wpAny M A (Builtin.SmallTypes.nextOf v) Q E s)) : wpAny M A (Builtin.SmallTypes.nextOf v) Q E s := h
theorem own_free {z TI TO : Addr} {f0 f1 : Value} {Q : Bool → Shared → Prop} (hz : IsZ s.heap z TI TO f0 f1) (hfr : f0 = .none ∨ ∃ T : Addr, f0 = rawInt T ∧ s.heap.get? T = none) (h : Q true s) :
    wpAny (model prog w) A (Builtin.SmallTypes.ownedTupleIsFree (.ref z)) Q E s := by
  obtain ⟨hp, ge, dr, tk, os⟩ := s
  obtain rfl | ⟨T, rfl, d⟩ := hfr <;> wp_walk using zbu <;> exact h
theorem own_held {z TI TO T : Addr} {f1 : Value} {o : Obj} {Q : Bool → Shared → Prop} (hz : IsZ s.heap z TI TO (rawInt T) f1) (hf : f1 = .bool false ∨ f1 = .bool true) (hT : s.heap.get? T = some o)
    (h : ∀ h', IsZ h' z TI TO (rawInt T) (.bool true) → Heap.SameBut z s.heap h' → Q false { s with heap := h' }) :
    wpAny (model prog w) A (Builtin.SmallTypes.ownedTupleIsFree (.ref z)) Q E s := by
  obtain ⟨hp, ge, dr, tk, os⟩ := s
  obtain rfl | rfl := hf <;> wp_walk using zbu
  · exact h _ (Heap.get?_update_self _ hz rfl) (.update ..)
  · exact h _ hz (.refl ..)
theorem znx {a b : Bool} {z TI TO i1 i2 l1 l2 : Addr} {k1 k2 : Nat} {xs ys : Array Value} {x y u v f0 f1 : Value} {Q : Value → Shared → Prop} (D : ZipApart z TI TO i1 i2 l1 l2)
    (hfr : f0 = .none ∨ ∃ T : Addr, f0 = rawInt T ∧ s.heap.get? T = none) (hz : IsZ s.heap z TI TO f0 f1) (hTI : IsPair s.heap TI (.ref i1) (.ref i2)) (hTO : IsPair s.heap TO u v)
    (h1 : SIt a s.heap i1 l1 k1) (h2i : SIt b s.heap i2 l2 k2) (hl1 : SSq a s.heap l1 xs) (hl2 : SSq b s.heap l2 ys) (hx : xs[k1]? = some x) (hy : ys[k2]? = some y)
    (hQ : ∀ h', IsZ h' z TI TO (rawInt s.heap.objs.size) (.bool false) → IsPair h' TO x y → SIt a h' i1 l1 (k1 + 1) → SIt b h' i2 l2 (k2 + 1) → IsPair h' s.heap.objs.size x y → h'.objs.size = s.heap.objs.size + 1 →
      But4 z TO i1 i2 s.heap h' → Q (.ref s.heap.objs.size) { s with heap := h' }) :
    wpAny (model prog w) A (zTurn z) (zTold Q) E s := by
  wp_walk using stp_next, own_free hz hfr, wpAny_onRaise
  have b1 := (Heap.SameBut.update (h := s.heap) (a := z) (f := Obj.mapFields fun x => x.setIfInBounds 0 .ellipsis)).extBut
  refine zcg (h1.eb b1 D.i1z) (hl1.eb b1 D.l1z) hx fun h2 q1 k2 => ?_
  have t2 : IsPair h2 TO u v := k2.extBut _ _ D.TOi1 (b1 _ _ D.TOz hTO)
  have z2 : IsZ h2 z TI TO .ellipsis f1 := k2.extBut _ _ D.i1z.symm (Heap.get?_update_self _ hz rfl)
  wp_walk using stp_next, wpAny_onRaise
  have b3 := (Heap.SameBut.update h2 TO (Obj.mapSeq fun e => e.setIfInBounds 0 x)).extBut
  have c3 : ∀ c o, c ≠ z → c ≠ TO → c ≠ i1 → s.heap.get? c = some o → (h2.update TO (Obj.mapSeq fun e => e.setIfInBounds 0 x)).get? c = some o := fun c o n1 n2 n3 e => b3 _ _ n2 (k2.extBut _ _ n3 (b1 _ _ n1 e))
  refine zcg (h2i.at fun o e => c3 _ o D.i2z D.TOi2.symm D.i12.symm e) (hl2.at fun o e => c3 _ o D.l2z D.l2TO D.l2i1 e) hy fun h4 q2 k4 => ?_
  have t4 : IsPair h4 TO x v := k4.extBut _ _ D.TOi2 (Heap.get?_update_self _ t2 rfl)
  have z4 : IsZ h4 z TI TO .ellipsis f1 := k4.extBut _ _ D.i2z.symm (b3 _ _ D.TOz.symm z2)
  have n1 := D.TOz
  wp_walk
  have b5 := (Heap.SameBut.update h4 TO (Obj.mapSeq fun e => e.setIfInBounds (0 + 1) y)).extBut
  have t5 : IsPair (h4.update TO (Obj.mapSeq fun e => e.setIfInBounds (0 + 1) y)) TO x y := Heap.get?_update_self _ t4 rfl
  have z5 := b5 _ _ n1.symm z4
  have m5 : (h4.update TO (Obj.mapSeq fun e => e.setIfInBounds (0 + 1) y)).objs.size = s.heap.objs.size := by rw [Heap.size_after_update, k4.1, Heap.size_after_update, k2.1, Heap.size_after_update]
  have c5 : ∀ c o, c ≠ z → c ≠ TO → c ≠ i1 → c ≠ i2 → s.heap.get? c = some o → (h4.update TO (Obj.mapSeq fun e => e.setIfInBounds (0 + 1) y)).get? c = some o := fun c o n1 n2 n3 n4 e => b5 _ _ n2 (k4.extBut _ _ n4 (c3 _ _ n1 n2 n3 e))
  have q15 := ((q1.eb b3 D.TOi1.symm).eb k4.extBut D.i12).eb b5 D.TOi1.symm
  have q25 := q2.eb b5 D.TOi2.symm
  generalize h4.update TO (Obj.mapSeq fun e => e.setIfInBounds (0 + 1) y) = h5 at *
  rw [m5]
  have b6 : ∀ c o, c ≠ z → h5.get? c = some o → (((h5.push { cls := .type "tuple", data := .seq #[x, y] }).update z (Obj.mapFields fun e => e.setIfInBounds 0 (rawInt s.heap.objs.size))).update z (Obj.mapFields fun e => e.setIfInBounds 1 (.bool false))).get? c = some o :=
    fun c o n e => (Heap.SameBut.update ..).extBut _ _ n ((Heap.SameBut.update ..).extBut _ _ n (Heap.get?_push_of_some _ e))
  refine ⟨_, rfl, hQ _ (Heap.get?_update_self _ (Heap.get?_update_self _ (Heap.get?_push_of_some _ z5) rfl) rfl) (b6 _ _ n1 t5) (q15.at fun o e => b6 _ o D.i1z e) (q25.at fun o e => b6 _ o D.i2z e) ?_ ?_ fun c o n1 n2 n3 n4 e => b6 c o n1 (c5 c o n1 n2 n3 n4 e)⟩
  · have := Heap.lt_size z5
    rw [m5] at this
    refine (Heap.SameBut.update ..).extBut _ _ (Nat.ne_of_gt this) ((Heap.SameBut.update ..).extBut _ _ (Nat.ne_of_gt this) ?_)
    exact m5 ▸ Heap.get?_push_size _ rfl
  · rw [Heap.size_after_update, Heap.size_after_update, Heap.size_push, m5]
theorem znw {a b : Bool} {z TI TO i1 i2 l1 l2 T : Addr} {k1 k2 : Nat} {xs ys : Array Value} {x y u v f1 : Value} {oT : Obj} {Q : Value → Shared → Prop} (D : ZipApart z TI TO i1 i2 l1 l2) (hf : f1 = .bool false ∨ f1 = .bool true)
    (hz : IsZ s.heap z TI TO (rawInt T) f1) (hT : s.heap.get? T = some oT) (hTI : IsPair s.heap TI (.ref i1) (.ref i2)) (hTO : IsPair s.heap TO u v)
    (h1 : SIt a s.heap i1 l1 k1) (h2i : SIt b s.heap i2 l2 k2) (hl1 : SSq a s.heap l1 xs) (hl2 : SSq b s.heap l2 ys) (hx : xs[k1]? = some x) (hy : ys[k2]? = some y)
    (hQ : ∀ h', IsZ h' z TI TO (rawInt T) (.bool true) → SIt a h' i1 l1 (k1 + 1) → SIt b h' i2 l2 (k2 + 1) → IsPair h' s.heap.objs.size x y → h'.objs.size = s.heap.objs.size + 1 →
      (∀ c o, c ≠ z → c ≠ i1 → c ≠ i2 → s.heap.get? c = some o → h'.get? c = some o) → Q (.ref s.heap.objs.size) { s with heap := h' }) :
    wpAny (model prog w) A (zTurn z) (zTold Q) E s := by
  wp_walk using stp_next, own_held hz hf hT
  intro g z1 j1
  wp_walk using stp_next
  refine zcg (h1.eb j1.extBut D.i1z) (hl1.eb j1.extBut D.l1z) hx fun h2 q1 k2 => ?_
  wp_walk using stp_next
  have c2 : ∀ c o, c ≠ z → c ≠ i1 → s.heap.get? c = some o → h2.get? c = some o := fun c o n1 n2 e => k2.extBut _ _ n2 (j1.extBut _ _ n1 e)
  refine zcg (h2i.at fun o e => c2 _ o D.i2z D.i12.symm e) (hl2.at fun o e => c2 _ o D.l2z D.l2i1 e) hy fun h3 q2 k3 => ?_
  wp_walk
  have m : h3.objs.size = s.heap.objs.size := by rw [k3.1, k2.1, j1.1]
  have p : ∀ c o, h3.get? c = some o → (h3.push { cls := .type "tuple", data := .seq #[x, y] }).get? c = some o := fun c o e => Heap.get?_push_of_some _ e
  rw [m]
  refine ⟨_, rfl, hQ _ (p _ _ (k3.extBut _ _ D.i2z.symm (k2.extBut _ _ D.i1z.symm z1))) ((q1.eb k3.extBut D.i12).at (p _)) (q2.at (p _)) ?_ ?_ fun c o n1 n2 n3 e => p _ _ (k3.extBut _ _ n3 (c2 _ _ n1 n2 e))⟩
  · exact m ▸ Heap.get?_push_size _ rfl
  · rw [Heap.size_push, m]
theorem zdB {a b : Bool} {z TI TO i1 i2 l1 l2 : Addr} {k1 k2 : Nat} {xs ys : Array Value} {u v f0 f1 : Value} {Q : Fin → Shared → Prop} (hh : A.handled = none) (D : ZipApart z TI TO i1 i2 l1 l2)
    (hfr : f0 = .none ∨ ∃ T : Addr, f0 = rawInt T ∧ s.heap.get? T = none) (hz : IsZ s.heap z TI TO f0 f1) (hTI : IsPair s.heap TI (.ref i1) (.ref i2)) (hTO : IsPair s.heap TO u v)
    (h1 : SIt a s.heap i1 l1 k1) (h2i : SIt b s.heap i2 l2 k2) (hl1 : SSq a s.heap l1 xs) (hl2 : SSq b s.heap l2 ys) (hend : xs[k1]? = none ∨ ys[k2]? = none)
    (hE : ∀ h' e, But4 z TO i1 i2 s.heap h' → IsStop h' e → E (.ref e) { s with heap := h' }) :
    wpAny (model prog w) A (zTurn z) Q E s := by
  wp_walk using stp_next, own_free hz hfr, wpAny_onRaise
  have b1 := (Heap.SameBut.update (h := s.heap) (a := z) (f := Obj.mapFields fun x => x.setIfInBounds 0 .ellipsis)).extBut
  have z1 : IsZ (s.heap.update z (Obj.mapFields fun x => x.setIfInBounds 0 .ellipsis)) z TI TO .ellipsis f1 := Heap.get?_update_self _ hz rfl
  have fin : ∀ (g : Heap) e, IsZ g z TI TO .ellipsis f1 → (∃ o, g.get? e = some o ∧ o.cls = .type "StopIteration") →
      ∃ o, (g.update z (Obj.mapFields fun x => x.setIfInBounds 0 .none)).get? e = some o ∧ o.cls = .type "StopIteration" := by
    rintro g e zg ⟨o, he, ce⟩
    refine ⟨o, (Heap.SameBut.update ..).extBut _ _ ?_ he, ce⟩
    rintro rfl
    cases he.symm.trans zg
    simp at ce
  cases hx : xs[k1]? with
  | none =>
    refine zfc hh (h1.eb b1 D.i1z) (hl1.eb b1 D.l1z) hx fun g e k he => ?_
    have zg : IsZ g z TI TO .ellipsis f1 := k _ _ D.i1z.symm z1
    wp_walk
    exact hE _ e (fun c o n1 _ n3 _ q => (Heap.SameBut.update ..).extBut _ _ n1 (k _ _ n3 (b1 _ _ n1 q))) (fin _ _ zg he)
  | some x =>
    have hy := hend.resolve_left (by rw [hx]; exact Option.some_ne_none x)
    refine zcg (h1.eb b1 D.i1z) (hl1.eb b1 D.l1z) hx fun h2 q1 k2 => ?_
    have t2 : IsPair h2 TO u v := k2.extBut _ _ D.TOi1 (b1 _ _ D.TOz hTO)
    have z2 : IsZ h2 z TI TO .ellipsis f1 := k2.extBut _ _ D.i1z.symm z1
    wp_walk using stp_next, wpAny_onRaise
    have b3 := (Heap.SameBut.update h2 TO (Obj.mapSeq fun e => e.setIfInBounds 0 x)).extBut
    have c3 : ∀ c o, c ≠ z → c ≠ TO → c ≠ i1 → s.heap.get? c = some o → (h2.update TO (Obj.mapSeq fun e => e.setIfInBounds 0 x)).get? c = some o := fun c o n1 n2 n3 e => b3 _ _ n2 (k2.extBut _ _ n3 (b1 _ _ n1 e))
    refine zfc hh (h2i.at fun o e => c3 _ o D.i2z D.TOi2.symm D.i12.symm e) (hl2.at fun o e => c3 _ o D.l2z D.l2TO D.l2i1 e) hy fun g e k he => ?_
    have zg : IsZ g z TI TO .ellipsis f1 := k _ _ D.i2z.symm (b3 _ _ D.TOz.symm z2)
    wp_walk
    exact hE _ e (fun c o n1 n2 n3 n4 q => (Heap.SameBut.update ..).extBut _ _ n1 (k _ _ n4 (c3 _ _ n1 n2 n3 q))) (fin _ _ zg he)
theorem zhe {a b : Bool} {z TI TO i1 i2 l1 l2 T : Addr} {k1 k2 : Nat} {xs ys : Array Value} {u v f1 : Value} {oT : Obj} {Q : Fin → Shared → Prop} (hh : A.handled = none) (D : ZipApart z TI TO i1 i2 l1 l2) (hf : f1 = .bool false ∨ f1 = .bool true)
    (hz : IsZ s.heap z TI TO (rawInt T) f1) (hT : s.heap.get? T = some oT) (hTI : IsPair s.heap TI (.ref i1) (.ref i2)) (hTO : IsPair s.heap TO u v)
    (h1 : SIt a s.heap i1 l1 k1) (h2i : SIt b s.heap i2 l2 k2) (hl1 : SSq a s.heap l1 xs) (hl2 : SSq b s.heap l2 ys) (hend : xs[k1]? = none ∨ ys[k2]? = none)
    (hE : ∀ h' e, But4 z TO i1 i2 s.heap h' → IsStop h' e → E (.ref e) { s with heap := h' }) :
    wpAny (model prog w) A (zTurn z) Q E s := by
  wp_walk using stp_next, own_held hz hf hT
  intro g z1 j1
  wp_walk using stp_next
  cases hx : xs[k1]? with
  | none =>
    refine zfc hh (h1.eb j1.extBut D.i1z) (hl1.eb j1.extBut D.l1z) hx fun g' e k he => ?_
    exact hE _ e (fun c o n1 _ n3 _ q => k _ _ n3 (j1.extBut _ _ n1 q)) he
  | some x =>
    have hy := hend.resolve_left (by rw [hx]; exact Option.some_ne_none x)
    refine zcg (h1.eb j1.extBut D.i1z) (hl1.eb j1.extBut D.l1z) hx fun h2 q1 k2 => ?_
    wp_walk using stp_next
    have c2 : ∀ c o, c ≠ z → c ≠ i1 → s.heap.get? c = some o → h2.get? c = some o := fun c o n1 n2 e => k2.extBut _ _ n2 (j1.extBut _ _ n1 e)
    refine zfc hh (h2i.at fun o e => c2 _ o D.i2z D.i12.symm e) (hl2.at fun o e => c2 _ o D.l2z D.l2i1 e) hy fun g' e k he => ?_
    exact hE _ e (fun c o n1 _ n3 n4 q => k _ _ n4 (c2 _ _ n1 n3 q)) he
end
end PySem
set_option Elab.async false
set_option linter.all false
set_option maxRecDepth 100000
set_option maxHeartbeats 8000000
namespace L2
open PySem PySem.Spec PyProof.Rows
structure TurnL (P:Program) (w:World) (K:PySem.W.Frag) (T:String) (J:It) (fp:List Addr) (it:Addr) (tn:Nat->Heap->Prop):Prop where
 mem:it∈fp
 ty:∀ i h,tn i h->∃ o,h.get? it=some o/\o.cls=.type T
 obj:∀ i h,tn i h->∀ b∈fp,∃ o,h.get? b=some o/\∀ v,o.data≠.cell v
 keep:∀ i h h',tn i h->(∀ b∈fp,∀ o,h.get? b=some o->h'.get? b=some o)->tn i h'
 item:∀ (X:Cx),X.prog=P->X.w=w->X.K=K->X.calm=true->∀ (i:Nat) (pins:List (Addr×Obj)) (s:Shared) (σ:St) (H:Hp) (E:Value->Shared->Prop),Inv X pins σ H s->(∀ b∈fp,FpOk X pins H b)->tn i s.heap->J.go i H ->
  wpAny (model P w) X.A (pyNext (.ref it)) (fun r s2=>∃ u x H',r=some u/\Inv X pins σ H' s2/\RelV x u/\J.yld i H x H'/\tn (i+1) s2.heap/\∀ b∈fp,H' b=none) E s
 done:∀ (X:Cx),X.prog=P->X.w=w->X.K=K->X.calm=true->∀ (i:Nat) (pins:List (Addr×Obj)) (s:Shared) (σ:St) (H:Hp) (E:Value->Shared->Prop),Inv X pins σ H s->(∀ b∈fp,FpOk X pins H b)->tn i s.heap->J.stop i H ->
  wpAny (model P w) X.A (pyNext (.ref it)) (fun r s1=>r=none/\Inv X pins σ H s1) E s
 self:∀ (A:Around) (i:Nat) (s:Shared) (Q:Value->Shared->Prop) (E:Value->Shared->Prop),tn i s.heap->Q (.ref it) s->wpAny (model P w) A (pyIter (.ref it)) Q E s
 hint:∀ (A:Around) (i:Nat) (s:Shared) (Q:Bool->Shared->Prop) (E:Value->Shared->Prop),tn i s.heap->(∀ b,Q b s)->wpAny (model P w) A (Builtin.List.listLengthHint (.ref it)) Q E s
abbrev Cx.atA (X:Cx) (A:Around):Cx:={ X with A:=A }
theorem Cx.Ok.atA {X:Cx} (ok:X.Ok) {A:Around} (hf:A.frames=X.A.frames) (hh:A.handled=X.A.handled):(X.atA A).Ok :=
 ⟨ok.mod,ok.kind,ok.glob,ok.blt,ok.above,ok.inj,ok.has,ok.cab,fun z=>hh.trans (ok.hd z),hf.trans ok.frames,ok.stk,ok.exf,ok.bs,ok.bsz,ok.noex,ok.exfs,ok.funs,ok.frf⟩
section
variable {X : Cx} {pins : List (Addr × Obj)} {σ : St} {H : Hp} {s : Shared}
theorem Inv.atA (I:Inv X pins σ H s) {A:Around} (hf:A.frames=X.A.frames) (hh:A.handled=X.A.handled):Inv (X.atA A) pins σ H s :=
 ⟨I.ok.atA hf hh,I.os,I.bare,I.base,I.loc,I.cell,I.free,I.freeC,I.pin,I.hok,I.len⟩
theorem Inv.unA {A:Around} (hf:A.frames=X.A.frames) (hh:A.handled=X.A.handled) (I:Inv (X.atA A) pins σ H s):Inv X pins σ H s :=
 ⟨Cx.Ok.atA (X:=X.atA A) (A:=X.A) I.ok hf.symm hh.symm,I.os,I.bare,I.base,I.loc,I.cell,I.free,I.freeC,I.pin,I.hok,I.len⟩
theorem zmI {P:Program} {w:World} {A:Around} {R:Result->Shared->Prop} (S I:Addr) (res:Value) (Jn:Nat->Shared->Prop)
  (step:∀ k s,Jn k s->wpAny (model P w) A.in1 (pyNext (.ref I)) (fun r s'=>match r with
   |none=>R (.ok (.ret res)) s'
   |some v=>∃ its c,s'.heap.get? S=some (lobj its c)/\its.length<sizeLine/\∀ h',Heap.SameBut S s'.heap h'->h'.get? S=some (lobj (its++[v]) (c+1))->∃ k',k' < k/\Jn k' { s' with heap:=h' }) (fun e s'=>R (.error e) s') s) :
  ∀ k s,Jn k s->codeAny (model P w) A (.builtin "list.extend.loop" ⟨[.ref S,.ref I,res],[]⟩) R s:=by
 intro k
 induction k using Nat.strongRecOn with
 |_ k ih =>
  intro s j
  refine codeAny_builtin F.entry_extend_loop ?_
  rw [Around.under_plainId F.plain_extend_loop _]
  show wpAny _ A.in1 (pyNext (.ref I) >>= _) _ _ s
  refine wpAny_bind (thn (step k s j) fun r s' q=>?_)
  cases r with
  |none=>exact wpAny_pure q
  |some v =>
   obtain ⟨its,c,hS,hl,q⟩:=q
   show wpAny _ A.in1 (updateSeq S (·.push v) >>= _) _ _ _
   refine wpAny_bind ?_
   obtain ⟨k',hk,j'⟩:=q _ (Heap.SameBut.update ..) (by exact (Heap.get?_update_self (Obj.mapSeq (·.push v)) hS rfl).trans (by simp [Obj.mapSeq,lobj]))
   exact wpAny_updateSeq hS rfl (wpAny_pure ⟨plainId_quiet F.plain_extend_loop _,ih k' hk _ j'⟩) (by show its.toArray.size<=sizeLine;rw [List.size_toArray];omega) (by show (its.toArray.push v).size<=sizeLine+1;rw [Array.size_push,List.size_toArray];omega)
theorem Inv.adopt {a:Addr} {o:HO} (I:Inv X pins σ H s) (off:Off X pins a) (hn:H a=none) (new:zbn X.prog X.w (upd H a o) s.heap a o):Inv X pins σ (upd H a o) s:=by
 have b:=I.base
 have nb:∀ b' ob,X.s₀.heap.get? b'=some ob->b'≠a:=fun b' ob e=>Nat.ne_of_lt (Nat.lt_of_lt_of_le (Heap.lt_size e) off.ge)
 refine ⟨I.ok,I.os,I.bare,⟨b.keep,b.slot,fun c ob e n hx=>?_,b.there,fun c xs e=>?_,fun c ob u e=>?_,fun c ps e=>?_⟩,I.loc,I.cell,?_,fun x c e=>?_,fun p hp=>?_,I.hok.adopt (fun c u v _ q=>q) hn new,I.len⟩
 .rw [zam (nb c ob e)];exact b.free c ob e n hx
 .rw [zam (zaq (b.tups c xs e) hn)];exact b.tups c xs e
 .rw [zam (zaq (b.frzs c ob u e) hn)];exact b.frzs c ob u e
 .obtain ⟨mo,e'⟩:=b.tbls c ps e
  exact ⟨mo,by rw [zam (zaq e' hn)];exact e'⟩
 .rw [zam off.ne.symm];exact I.free
 .rw [zam (off.cl x c e)];exact I.freeC x c e
 .obtain ⟨q1,q2,q3⟩:=I.pin p hp
  exact ⟨q1,by rw [zam (off.pn p hp)];exact q2,q3⟩
theorem zkv (hc:X.calm=true) {T:String} {J:It} {fp:List Addr} {it:Addr} {tn:Nat->Heap->Prop} {Q:VK} (hTl:(Value.type T==Value.type "list")=false) (hTt:(Value.type T==Value.type "tuple")=false)
  (I:Inv X pins σ H s) (Tn:TurnL X.prog X.w X.K T J fp it tn) (t0:tn 0 s.heap) (hf:∀ b∈fp,FpOk X pins H b) (n:Nat) (hn:n<=sizeLine) (W:Nat->List V->Hp->Prop) (w0:W 0 [] H)
  (wgo:∀ i acc H,i<n->W i acc H->J.go i H/\∀ x H',J.yld i H x H'->W (i+1) (acc++[x]) H') (wst:∀ acc H,W n acc H->J.stop n H/\∀ p,H p=none->Q (.ref p) (upd H p (.lst acc))) :
  wpAny (model X.prog X.w) X.A (call (.type "list") [.ref it]) (EP X pins σ Q) X.xe s:=by
 have hfp:∀ b∈fp,b<s.heap.objs.size:=fun b hb=>by
  obtain ⟨o,e,_⟩:=Tn.obj _ _ t0 b hb
  exact Heap.lt_size e
 have hSf:∀ b∈fp,b≠s.heap.objs.size:=fun b hb=>Nat.ne_of_lt (hfp b hb)
 have hSI:s.heap.objs.size≠it:=(hSf it Tn.mem).symm
 have off:Off X pins s.heap.objs.size:=I.off (Nat.le_refl _)
 have nfs:s.heap.objs.size∉X.fs:=I.nofs (Nat.le_refl _)
 have fr0:∀ b∈fp,H b=none:=fun b hb=>(hf b hb).1
 have HS0:H s.heap.objs.size=none:=I.hok.fresh (Nat.le_refl _)
 have fpok:∀ {H':Hp} {ob:Obj},(∀ b∈fp,H' b=none)->∀ b∈fp,FpOk X ((s.heap.objs.size,ob)::pins) H' b:=fun {H' ob} hn b hb=>by
  obtain ⟨q1,q2,q3,q4,q5,q6⟩:=hf b hb
  refine ⟨hn b hb,q2,q3,q4,q5,fun p hp=>?_⟩
  rcases List.mem_append.mp hp with hp | hp
  .exact q6 p (List.mem_append_left _ hp)
  .rcases List.mem_cons.mp hp with rfl | hp
   .exact (hSf b hb).symm
   .exact q6 p (List.mem_append_right _ hp)
 have pinS:∀ {H':Hp} {s':Shared} {its:List Value} {c:Nat},Inv X pins σ H' s'->H' s.heap.objs.size=none->s'.heap.get? s.heap.objs.size=some (lobj its c)->Inv X ((s.heap.objs.size,lobj its c)::pins) σ H' s':=fun {H' s' its c} I' hn e =>
  I'.pins_of fun p hp=>by
   rcases List.mem_cons.mp hp with rfl | hp
   .exact ⟨e,hn,off.ne,nfs,fun v z=>nomatch z⟩
   .exact I'.pin p (List.mem_append_right _ hp)
 have unpin:∀ {H':Hp} {s':Shared} {ob:Obj},Inv X ((s.heap.objs.size,ob)::pins) σ H' s'->Inv X pins σ H' s':=fun {H' s' ob} I'=>I'.pins_of fun p hp=>I'.pin p (List.mem_append_right _ (List.mem_cons_of_mem _ hp))
 refine callType_codes (Q₁:=fun obj s₁=>obj=.ref s.heap.objs.size/\s₁={ s with heap:=s.heap.push { cls:=.type "list", data:=.seq #[] } }) F.called_list (F.typeCall_list_1 _) F.entry_list_init
  (code_list_new _ ⟨rfl,rfl⟩) fun obj s₁ h₁=>?_
 obtain ⟨rfl,rfl⟩:=h₁
 have hS:(s.heap.push { cls:=.type "list", data:=.seq #[] }).get? s.heap.objs.size=some { cls:=.type "list", data:=.seq #[] }:=Heap.get?_push_size _ rfl
 refine ⟨⟨_,hS,rfl⟩,F.args_list_init_2 _ _,?_⟩
 have loop:∀ (h':Heap) (c:Nat),h'.get? s.heap.objs.size=some (lobj [] c)->(∀ b o,s.heap.get? b=some o->h'.get? b=some o) ->
   codeAny (model X.prog X.w) X.A.in1 (.builtin "list.extend.loop" ⟨[.ref s.heap.objs.size,.ref it,.none],[]⟩) (wants (fun r s₂=>r=.none/\EP X pins σ Q (.ref s.heap.objs.size) s₂) X.xe) { s with heap:=h' }:=by
  intro h' c e0 k0
  refine zmI s.heap.objs.size it .none (fun k s'=>∃ i acc H' its c,k+i=n/\Inv X pins σ H' s'/\tn i s'.heap/\(∀ b∈fp,H' b=none)/\H' s.heap.objs.size=none/\s'.heap.get? s.heap.objs.size=some (lobj its c)/\Vals acc its/\acc.length<=i/\W i acc H') ?_ n _
   ⟨0,[],H,[],c,by omega,I.kept (t':=s.toks) k0,Tn.keep _ _ _ t0 fun b _ o e=>k0 b o e,fr0,HS0,e0,.nil,Nat.le_refl _,w0⟩
  rintro k s' ⟨i,acc,H',its,c',hk,I',st,fr,hS',oS,v,la,wi⟩
  have Ip:=(pinS I' hS' oS).atA (A:=X.A.in1.in1) rfl rfl
  by_cases hi:i<n
  .obtain ⟨go,yl⟩:=wgo i acc H' hi wi
   refine thn (Tn.item (X.atA X.A.in1.in1) rfl rfl rfl hc i _ s' σ H' _ Ip (fpok fr) st go) fun r s2 ⟨u,x,H2,hr,I2,r2,y2,st2,fr2⟩=>?_
   subst hr
   have I2':=Inv.unA (X:=X) (A:=X.A.in1.in1) rfl rfl I2
   have p2:=I2'.pin (s.heap.objs.size,lobj its c') (List.mem_append_right _ (List.mem_cons_self ..))
   refine ⟨its,c',p2.1,by rw [← v.length];omega,fun h'' sb e''=>⟨k - 1,by omega,i+1,acc++[x],H2,its++[u],c'+1,by omega,off.turned (unpin I2') p2.2.1 sb,Tn.keep _ _ _ st2 fun b hb o e=>sb.extBut b o (hSf b hb) e,fr2,p2.2.1,e'',v.append (.cons r2 .nil),by rw [List.length_append];show acc.length+1<=i+1;omega,yl x H2 y2⟩⟩
  .have hin:i=n:=by omega
   subst hin
   obtain ⟨stp,fin⟩:=wst acc H' wi
   refine thn (Tn.done (X.atA X.A.in1.in1) rfl rfl rfl hc i _ s' σ H' _ Ip (fpok fr) st stp) fun r s2 ⟨hr,I2⟩=>?_
   subst hr
   have I2':=Inv.unA (X:=X) (A:=X.A.in1.in1) rfl rfl I2
   have p2:=I2'.pin (s.heap.objs.size,lobj its c') (List.mem_append_right _ (List.mem_cons_self ..))
   exact ⟨rfl,.ref s.heap.objs.size,upd H' s.heap.objs.size (.lst acc),(unpin I2').adopt off hS' ⟨by omega,its,c',v,p2.1⟩,rfl,fin _ hS'⟩
 show wpAny _ X.A.in1.in1 (do let old ← Builtin.List.listItems (.ref s.heap.objs.size);Builtin.List.listUpdate (.ref s.heap.objs.size) (fun _=>#[]);letGo old.toList.reverse;Builtin.List.listExtendWith (.ref s.heap.objs.size) (.ref it) .none) _ _ _
 refine wpAny_bind ?_
 unfold Builtin.List.listItems
 refine wpAny_bind (wpAny_seqItems hS rfl (wpAny_pure ?_))
 show wpAny _ X.A.in1.in1 (updateSeq s.heap.objs.size (fun _=>#[]) >>= fun _=>letGo (#[]:Array Value).toList.reverse >>= fun _=>Builtin.List.listExtendWith (.ref s.heap.objs.size) (.ref it) .none) _ _ _
 refine wpAny_bind (wpAny_updateSeq hS rfl ?_)
 have hS₂:=Heap.get?_update_self (Obj.mapSeq (fun _=>(#[]:Array Value))) hS rfl
 generalize hh2:(s.heap.push { cls:=.type "list", data:=.seq #[] }).update s.heap.objs.size (Obj.mapSeq (fun _=>(#[]:Array Value)))=h2 at *
 have k2:∀ b o,s.heap.get? b=some o->h2.get? b=some o:=fun b o e=>by
  rw [← hh2,Heap.get?_update_other _ _ (Nat.ne_of_gt (Heap.lt_size e))]
  exact Heap.get?_push_of_some _ e
 have tn2:tn 0 h2:=Tn.keep _ _ _ t0 fun b _ o e=>k2 b o e
 refine wpAny_bind (wpAny_letGo ?_)
 unfold Builtin.List.listExtendWith
 obtain ⟨oI,eI,cI⟩:=Tn.ty _ _ tn2
 refine wpAny_bind (wpAny_typeOf (s:={ s with heap:=h2 }) ⟨oI,eI,cI⟩ ?_)
 have h1:Builtin.List.listSameRef (.ref s.heap.objs.size) (.ref it)=false:=by simp [Builtin.List.listSameRef,hSI]
 rw [if_neg (by rw [h1,hTl,hTt];decide)]
 refine wpAny_bind (Tn.self _ 0 { s with heap:=h2 } _ _ tn2 ?_)
 refine wpAny_bind (wpAny_holding (Tn.hint _ 0 { s with heap:=h2 } _ _ tn2 fun room=>?_))
 dsimp only
 split
 .refine wpAny_bind (wpAny_rule ?_)
  refine wpAny_bind ?_
  show wpAny _ X.A.in1.in1 (updateSeq s.heap.objs.size (·.push .none) >>= fun _=>updateSeq s.heap.objs.size (·.pop)) _ _ _
  refine wpAny_bind (wpAny_updateSeq hS₂ rfl ?_)
  have hS₃:=Heap.get?_update_self (Obj.mapSeq (·.push Value.none)) hS₂ rfl
  refine wpAny_updateSeq (hz:=by seq_fits) hS₃ rfl ?_
  have hS₄:=Heap.get?_update_self (Obj.mapSeq (·.pop)) hS₃ rfl
  refine wpAny_pure ⟨plainId_quiet F.plain_extend_loop _,loop _ _ hS₄ fun b o e=>?_⟩
  rw [Heap.get?_update_other _ _ (Nat.ne_of_gt (Heap.lt_size e)),Heap.get?_update_other _ _ (Nat.ne_of_gt (Heap.lt_size e))]
  exact k2 b o e
 .exact wpAny_pure ⟨plainId_quiet F.plain_extend_loop _,loop _ _ hS₂ k2⟩
end
end L2
set_option Elab.async false
set_option linter.all false
set_option maxRecDepth 100000
set_option maxHeartbeats 8000000
namespace L2
open PySem PySem.Spec PyProof.Rows
def SqB (b:Bool) (K:PySem.W.Frag) (H:Hp) (a:Addr) (xs:List V):Prop:=match b with
 |true=>SqT K H a xs
 |false=>SqL K H a xs
theorem Inv.sqB {X:Cx} {pins:List (Addr×Obj)} {σ:St} {H:Hp} {s:Shared} {b:Bool} {a:Addr} {xs:List V} (I:Inv X pins σ H s) (h:SqB b X.K H a xs):∃ its:List Value,Vals xs its/\SSq b s.heap a its.toArray/\xs.length<=sizeLine:=by
 cases b
 .obtain ⟨its,r,p,hz⟩:=I.list h
  exact ⟨its,r,p.isList,hz⟩
 .obtain ⟨its,r,p,hz⟩:=I.tuple h
  exact ⟨its,r,p,hz⟩
theorem Inv.sqB_inj {X:Cx} {pins:List (Addr×Obj)} {σ:St} {H:Hp} {s:Shared} {b:Bool} {a:Addr} {xs ys:List V} (I:Inv X pins σ H s) (h:SqB b X.K H a xs) (h':SqB b X.K H a ys):xs=ys:=by
 cases b
 .exact I.list_inj h h'
 .exact I.tuple_inj h h'
theorem Inv.turns {X:Cx} {pins:List (Addr×Obj)} {σ:St} {H:Hp} {s:Shared} {h':Heap} {t':Nat} {fp:List Addr} (I:Inv X pins σ H s) (hf:∀ b∈fp,FpOk X pins H b) (k:∀ b o,b∉fp->s.heap.get? b=some o->h'.get? b=some o):Inv X pins σ H { s with heap:=h',toks:=t' }:=by
 have nit:∀ b u,H b=some u->b∉fp:=fun b u e z=>by rw [(hf b z).1] at e;cases e
 refine I.step (g':=s.gens) (d':=s.drawn) (ch:=fp) (fun b hb=>?_) (fun b o _ _ hc e _=>k b o hc e) (fun b o _ _ hc e _=>⟨o.slots,k b o hc e⟩) (fun _ _ _ _ n=>n)
  (fun b o hc e=>⟨o,k b o hc e⟩) (fun _ _ e=>e) (fun _ _ _ e=>e) (fun b ps e=>⟨#[],by rw [e];simp⟩) (fun m hm=>?_) (fun b u e=>?_) I.bare
 .obtain ⟨_,q2,q3,q4,q5,q6⟩:=hf b hb
  exact ⟨q4,q2,q5,q6⟩
 .obtain ⟨o,es,ep,ho,r⟩:=hm
  exact ⟨o,es,ep,k _ o (fun z=>(hf _ z).2.1 rfl) ho,r⟩
 .refine (I.hok b u e).stay (fun c v hc q=>k c v ?_ q) (fun _ q=>q) fun _ _ q=>q
  rcases hc with z | z
  .rw [z];exact nit b u e
  .exact nit c _ z
def Itz (a b:Bool) (K:PySem.W.Frag) (l1 l2:Addr):It where
 go:=fun i H=>∃ xs ys x y,SqB a K H l1 xs/\SqB b K H l2 ys/\xs[i]?=some x/\ys[i]?=some y
 yld:=fun i H v H'=>∃ p x y,v=.ref p/\H p=none/\H'=upd H p (.tup [x,y])/\(∀ xs,SqB a K H l1 xs->xs[i]?=some x)/\∀ ys,SqB b K H l2 ys->ys[i]?=some y
 stop:=fun i H=>∃ xs ys,SqB a K H l1 xs/\SqB b K H l2 ys/\(xs[i]?=none\/ys[i]?=none)
def ZpSt (a b:Bool) (z TI TO i1 i2 l1 l2:Addr) (i:Nat) (h:Heap):Prop :=
 ∃ f0 f1,IsZ h z TI TO f0 f1/\(f0=.none\/∃ T:Addr,f0=rawInt T)/\(f1=.bool false\/f1=.bool true)/\IsPair h TI (.ref i1) (.ref i2)/\(∃ u v,IsPair h TO u v)/\SIt a h i1 l1 i/\SIt b h i2 l2 i
section
variable {a b : Bool} {z TI TO i1 i2 l1 l2 : Addr}
theorem ZpSt.obj {i:Nat} {h:Heap} (x:ZpSt a b z TI TO i1 i2 l1 l2 i h):∀ c∈[z,TI,TO,i1,i2],∃ o,h.get? c=some o/\∀ v,o.data≠.cell v:=by
 obtain ⟨f0,f1,hz,_,_,hTI,⟨u,v,hTO⟩,⟨o1,e1,_,d1⟩,⟨o2,e2,_,d2⟩⟩:=x
 intro c hc
 simp only [List.mem_cons,List.not_mem_nil,or_false] at hc
 rcases hc with rfl | rfl | rfl | rfl | rfl
 .exact ⟨_,hz,fun v z=>nomatch z⟩
 .exact ⟨_,hTI,fun v z=>nomatch z⟩
 .exact ⟨_,hTO,fun v z=>nomatch z⟩
 .exact ⟨_,e1,fun v z=>by rw [d1] at z;cases z⟩
 .exact ⟨_,e2,fun v z=>by rw [d2] at z;cases z⟩
theorem ZpSt.keep {i:Nat} {h h':Heap} (x:ZpSt a b z TI TO i1 i2 l1 l2 i h) (k:∀ c∈[z,TI,TO,i1,i2],∀ o,h.get? c=some o->h'.get? c=some o):ZpSt a b z TI TO i1 i2 l1 l2 i h':=by
 obtain ⟨f0,f1,hz,h0,h1,hTI,⟨u,v,hTO⟩,s1,s2⟩:=x
 exact ⟨f0,f1,k z (by simp) _ hz,h0,h1,k TI (by simp) _ hTI,⟨u,v,k TO (by simp) _ hTO⟩,s1.at fun o e=>k i1 (by simp) o e,s2.at fun o e=>k i2 (by simp) o e⟩
variable {X : Cx} {pins : List (Addr × Obj)} {σ : St} {H : Hp} {s : Shared}
theorem zh0 (hd:[z,TI,TO,i1,i2].Nodup) (hf:∀ c∈[z,TI,TO,i1,i2],FpOk X pins H c) {xs ys:List V} (I:Inv X pins σ H s) (h1:SqB a X.K H l1 xs) (h2:SqB b X.K H l2 ys)
  (n1:l1∉[z,TI,TO,i1,i2]) (n2:l2∉[z,TI,TO,i1,i2]):ZipApart z TI TO i1 i2 l1 l2:=by
 simp only [List.nodup_cons,List.mem_cons,List.not_mem_nil,or_false,not_or,List.nodup_nil,not_false_eq_true,and_true] at hd n1 n2
 obtain ⟨⟨a1,a2,a3,a4⟩,⟨b1,b2,b3⟩,⟨c1,c2⟩,d1⟩:=hd
 obtain ⟨m1,m2,m3,m4,m5⟩:=n1
 obtain ⟨k1,k2,k3,k4,k5⟩:=n2
 exact ⟨Ne.symm a1,Ne.symm a2,Ne.symm a3,Ne.symm a4,b1,b2,b3,c1,c2,d1,m1,m3,m4,m5,k1,k3,k4,k5⟩
theorem znv {E:Value->Shared->Prop} (hh:X.A.handled=none) (hd:[z,TI,TO,i1,i2].Nodup) (n1:l1∉[z,TI,TO,i1,i2]) (n2:l2∉[z,TI,TO,i1,i2]) {i:Nat} (I:Inv X pins σ H s) (hf:∀ c∈[z,TI,TO,i1,i2],FpOk X pins H c)
  (st:ZpSt a b z TI TO i1 i2 l1 l2 i s.heap) (go:(Itz a b X.K l1 l2).go i H) :
  wpAny (model X.prog X.w) X.A (pyNext (.ref z)) (fun r s2=>∃ u x H',r=some u/\Inv X pins σ H' s2/\RelV x u/\(Itz a b X.K l1 l2).yld i H x H'/\ZpSt a b z TI TO i1 i2 l1 l2 (i+1) s2.heap/\(∃ T:Addr,u=.ref T/\T∉[z,TI,TO,i1,i2])/\∀ c∈[z,TI,TO,i1,i2],H' c=none) E s:=by
 obtain ⟨xs,ys,x,y,q1,q2,ex,ey⟩:=go
 have D:=zh0 hd hf I q1 q2 n1 n2
 obtain ⟨itx,vx,sx,_⟩:=I.sqB q1
 obtain ⟨ity,vy,sy,_⟩:=I.sqB q2
 obtain ⟨ux,eux,rx⟩:=vx.get ex
 obtain ⟨uy,euy,ry⟩:=vy.get ey
 have hx:itx.toArray[i]?=some ux:=by simpa using eux
 have hy:ity.toArray[i]?=some uy:=by simpa using euy
 obtain ⟨f0,f1,hz,h0,h1,hTI,⟨u,v,hTO⟩,s1,s2⟩:=id st
 have hT:s.TypeIs (.ref z) "zip" := ⟨_,hz,rfl⟩
 have lt:∀ c∈[z,TI,TO,i1,i2],c<s.heap.objs.size:=fun c hc=>by
  obtain ⟨o,e,_⟩:=st.obj c hc
  exact Heap.lt_size e
 have new:s.heap.objs.size∉[z,TI,TO,i1,i2]:=fun hm=>Nat.lt_irrefl _ (lt _ hm)
 have fin:∀ (h':Heap),ZpSt a b z TI TO i1 i2 l1 l2 (i+1) h'->IsPair h' s.heap.objs.size ux uy->h'.objs.size=s.heap.objs.size+1->(∀ c o,c∉[z,TI,TO,i1,i2]->s.heap.get? c=some o->h'.get? c=some o) ->
   ∃ u x H',(some (Value.ref s.heap.objs.size))=some u/\Inv X pins σ H' { s with heap:=h' }/\RelV x u/\(Itz a b X.K l1 l2).yld i H x H'/\ZpSt a b z TI TO i1 i2 l1 l2 (i+1) h'/\(∃ T:Addr,u=.ref T/\T∉[z,TI,TO,i1,i2])/\∀ c∈[z,TI,TO,i1,i2],H' c=none:=by
  intro h' st' pr sz k
  have hn:H s.heap.objs.size=none:=I.hok.fresh (Nat.le_refl _)
  have I1:Inv X pins σ H { s with heap:=h',toks:=s.toks }:=I.turns hf k
  refine ⟨_,.ref s.heap.objs.size,upd H s.heap.objs.size (.tup [x,y]),rfl,?_,rfl,⟨_,x,y,rfl,hn,rfl,fun xs' q'=>by rw [I.sqB_inj q' q1];exact ex,fun ys' q'=>by rw [I.sqB_inj q' q2];exact ey⟩,st',⟨_,rfl,new⟩,fun c hc=>by rw [zam (fun e:c=s.heap.objs.size=>new (e▸hc))];exact (hf c hc).1⟩
  exact I1.adopt (I.off (Nat.le_refl _)) hn ⟨by show 2<=sizeLine;rw [sizeLine_eq];decide,[ux,uy],.cons rx (.cons ry .nil),⟨_,pr,rfl,_,rfl⟩⟩
 unfold pyNext
 have free:(f0=.none\/∃ T:Addr,f0=rawInt T/\s.heap.get? T=none)->wpAny (model X.prog X.w) X.A.in1 (Builtin.«zip.__next__» ⟨[.ref z],[]⟩) (fun fin s'=>∃ v,fin=.done (.ret v)/\∃ u x H',some v=some u/\Inv X pins σ H' s'/\RelV x u/\(Itz a b X.K l1 l2).yld i H x H'/\ZpSt a b z TI TO i1 i2 l1 l2 (i+1) s'.heap/\(∃ T:Addr,u=.ref T/\T∉[z,TI,TO,i1,i2])/\∀ c∈[z,TI,TO,i1,i2],H' c=none) (fun _ _=>False) s:=fun hfr=>by
  refine znx D hfr hz hTI hTO s1 s2 sx sy hx hy fun h' a1 a2 a3 a4 a5 a6 a7=>fin h' ⟨_,_,a1,.inr ⟨_,rfl⟩,.inl rfl,a7 TI _ D.TIz D.TITO D.TIi1 D.TIi2 hTI,⟨_,_,a2⟩,a3,a4⟩ a5 a6 fun c o hc e=>?_
  simp only [List.mem_cons,List.not_mem_nil,or_false,not_or] at hc
  exact a7 c o hc.1 hc.2.2.1 hc.2.2.2.1 hc.2.2.2.2 e
 have held:∀ (T:Addr) (oT:Obj),f0=rawInt T->s.heap.get? T=some oT->wpAny (model X.prog X.w) X.A.in1 (Builtin.«zip.__next__» ⟨[.ref z],[]⟩) (fun fin s'=>∃ v,fin=.done (.ret v)/\∃ u x H',some v=some u/\Inv X pins σ H' s'/\RelV x u/\(Itz a b X.K l1 l2).yld i H x H'/\ZpSt a b z TI TO i1 i2 l1 l2 (i+1) s'.heap/\(∃ T:Addr,u=.ref T/\T∉[z,TI,TO,i1,i2])/\∀ c∈[z,TI,TO,i1,i2],H' c=none) (fun _ _=>False) s:=fun T oT e0 eT=>by
  subst e0
  refine znw D h1 hz eT hTI hTO s1 s2 sx sy hx hy fun h' a1 a3 a4 a5 a6 a7=>fin h' ⟨_,_,a1,.inr ⟨_,rfl⟩,.inr rfl,a7 TI _ D.TIz D.TIi1 D.TIi2 hTI,⟨_,_,a7 TO _ D.TOz D.TOi1 D.TOi2 hTO⟩,a3,a4⟩ a5 a6 fun c o hc e=>?_
  simp only [List.mem_cons,List.not_mem_nil,or_false,not_or] at hc
  exact a7 c o hc.1 hc.2.2.2.1 hc.2.2.2.2 e
 refine wpAny_bind (wpAny_attempt (wpAny_callSpecial?_slot (name:=Str.ofString "__next__") hT F.slot_zip_next
  (wpAny_call_entry F.slot_zip_next hT F.entry_zip_next ?_ (F.args_zip_next_1 _))))
 have all:wpAny (model X.prog X.w) X.A.in1 (Builtin.«zip.__next__» ⟨[.ref z],[]⟩) (fun fin s'=>∃ v,fin=.done (.ret v)/\∃ u x H',some v=some u/\Inv X pins σ H' s'/\RelV x u/\(Itz a b X.K l1 l2).yld i H x H'/\ZpSt a b z TI TO i1 i2 l1 l2 (i+1) s'.heap/\(∃ T:Addr,u=.ref T/\T∉[z,TI,TO,i1,i2])/\∀ c∈[z,TI,TO,i1,i2],H' c=none) (fun _ _=>False) s:=by
  rcases h0 with e0 | ⟨T,e0⟩
  .exact free (.inl e0)
  .cases eT:s.heap.get? T with
   |none=>exact free (.inr ⟨T,e0,eT⟩)
   |some oT=>exact held T oT e0 eT
 refine wpAny_mono all (fun fin' s' ⟨v',e',q⟩=>⟨v',e',?_⟩) (fun _ _ z=>z.elim)
 exact wpAny_pure q
theorem zny {E:Value->Shared->Prop} (hh:X.A.handled=none) (hd:[z,TI,TO,i1,i2].Nodup) (n1:l1∉[z,TI,TO,i1,i2]) (n2:l2∉[z,TI,TO,i1,i2]) {i:Nat} (I:Inv X pins σ H s) (hf:∀ c∈[z,TI,TO,i1,i2],FpOk X pins H c)
  (st:ZpSt a b z TI TO i1 i2 l1 l2 i s.heap) (stop:(Itz a b X.K l1 l2).stop i H) :
  wpAny (model X.prog X.w) X.A (pyNext (.ref z)) (fun r s1=>r=none/\Inv X pins σ H s1) E s:=by
 obtain ⟨xs,ys,q1,q2,he⟩:=stop
 have D:=zh0 hd hf I q1 q2 n1 n2
 obtain ⟨itx,vx,sx,_⟩:=I.sqB q1
 obtain ⟨ity,vy,sy,_⟩:=I.sqB q2
 have hend:itx.toArray[i]?=none\/ity.toArray[i]?=none:=by
  rcases he with e | e
  .left;simpa using vx.none_of e
  .right;simpa using vy.none_of e
 obtain ⟨f0,f1,hz,h0,h1,hTI,⟨u,v,hTO⟩,s1,s2⟩:=id st
 have hT:s.TypeIs (.ref z) "zip" := ⟨_,hz,rfl⟩
 unfold pyNext
 have fin:∀ (h':Heap) (e:Addr),(∀ c o,c≠z->c≠TO->c≠i1->c≠i2->s.heap.get? c=some o->h'.get? c=some o)->(∃ o,h'.get? e=some o/\o.cls=.type "StopIteration") ->
   wpAny (model X.prog X.w) X.A (do if ← isInstance (.ref e) (.type "StopIteration") then pure none else throw (.ref e)) (fun (r:Option Value) s1=>r=none/\Inv X pins σ H s1) E { s with heap:=h' }:=fun h' e k ⟨o,ho,hc⟩=>by
  refine wpAny_bind (wpAny_isInstance (T := "StopIteration") (b:=true) ⟨o,ho,hc⟩ isSubtype_stop ?_)
  refine wpAny_pure ⟨rfl,I.turns (t':=s.toks) hf fun c o hc e=>?_⟩
  simp only [List.mem_cons,List.not_mem_nil,or_false,not_or] at hc
  exact k c o hc.1 hc.2.2.1 hc.2.2.2.1 hc.2.2.2.2 e
 refine wpAny_bind (wpAny_attempt (wpAny_callSpecial?_slot (name:=Str.ofString "__next__") hT F.slot_zip_next
  (wpAny_call_entry F.slot_zip_next hT F.entry_zip_next ?_ (F.args_zip_next_1 _))))
 rcases h0 with e0 | ⟨T,e0⟩
 .exact zdB hh D (.inl e0) hz hTI hTO s1 s2 sx sy hend fun h' e k he=>fin h' e k he
 .cases eT:s.heap.get? T with
  |none=>exact zdB hh D (.inr ⟨T,e0,eT⟩) hz hTI hTO s1 s2 sx sy hend fun h' e k he=>fin h' e k he
  |some oT =>
   subst e0
   exact zhe hh D h1 hz eT hTI hTO s1 s2 sx sy hend fun h' e k he=>fin h' e k he
theorem zjy {P:Program} {w:World} {A:Around} {i:Nat} {s:Shared} {Q:Value->Shared->Prop} {E:Value->Shared->Prop} (st:ZpSt a b z TI TO i1 i2 l1 l2 i s.heap) (h:Q (.ref z) s):wpAny (model P w) A (pyIter (.ref z)) Q E s:=by
 obtain ⟨f0,f1,hz,_⟩:=st
 have hT:s.TypeIs (.ref z) "zip" := ⟨_,hz,rfl⟩
 refine wpAny_pyIter_slot hT F.slot_zip_iter (wpAny_call_entry F.slot_zip_iter hT F.entry_zip_iter ?_ (F.args_zip_iter_1 _))
 show wpAny _ _ (ret (.ref z)) _ _ s
 exact wpAny_pure ⟨_,rfl, "zip", _,hT,F.slot_zip_next.lookup,h⟩
end
end L2
set_option Elab.async false
set_option linter.all false
set_option maxRecDepth 100000
set_option maxHeartbeats 8000000
namespace L3
open PySem PySem.Spec PyProof.Rows L2
structure Pr where
 prog:Program
 w:World
 K:Frg
 mg:Str->Option Value
 base:Heap
abbrev Pr.at (q:Pr) (A:Around):Par:=⟨q.prog,q.w,q.K,q.mg,q.base,A⟩
def zdp (K:Frg) (sp:Sp3):Sp:=fun vs H Q E=>∃ ws G,Reps K H ws vs/\Abs K H G/\sp ws G (lowQ K H Q) XN
def zap (N:List Str) (ws:List W):St3:=ws.map some++List.replicate (N.length - ws.length) none
theorem zjK {K:Frg} {H:Hp} {N:List Str} {ws:List W} {vs:List V} (r:Reps K H ws vs):zaK K H (zap N ws) (L2.start N vs):=by
 have hl:=r.length
 refine ⟨by simp [zap,L2.start,hl],fun i w e=>?_⟩
 unfold zap at e
 unfold L2.start
 by_cases hi:i<ws.length
 .rw [List.getElem?_append_left (by simpa using hi),List.getElem?_map] at e
  cases q:ws[i]? with
  |none=>rw [q] at e;cases e
  |some w' =>
   rw [q] at e
   obtain rfl:w'=w:=Option.some.inj (Option.some.inj e)
   obtain ⟨v,ev,rp⟩:=r.get q
   refine ⟨v,?_,rp⟩
   rw [List.getElem?_append_left (by simp;omega),List.getElem?_map,ev]
   rfl
 .rw [List.getElem?_append_right (by simp;omega),List.getElem?_replicate] at e
  split at e <;> cases e
structure MOk (Γ:Ctx3) (M:MC) (sc:Scope):Prop where
 sc:M.sc=sc
 own:M.own=true
 fns:Γ.fn.map (·.nm)=M.fns
 gls:Γ.gl.map (·.1)=M.gls
 mts:Γ.mt.map (·.nm)=M.mts
 its:Γ.it.map (·.nm)=M.its
 sxs:Γ.sx.map (·.m)=M.sxm
 ixs:Γ.ix.map (·.m)=M.ixm
def FnE (p:Par) (f:Fn3):Prop:=∀ X,Fits p X->Gl X f.nm->∀ (args:List Expr) (t:A3) (q pos:Pos),zdt t->args.all zbo=true->PA X args (lowA X.K t)->(args=[]->∀ σ G Q,t σ G Q->Q [] G)->(f.nm==("__debug__" : Str))=false->f.nm ≠ "__name__" ->
  PE X (.Call (.Name f.nm q) args [] pos) (lowE X.K fun σ G Q=>t σ G fun ws G1=>f.sp ws G1 Q XN)
theorem za7 {e:Expr} {es:List Expr} {env:Env} {pos:Pos} (h:(e::es).all zbo=true):starEach (e::es) env=(false,eval e env)::starEach es env/\(backTo pos (starEach es env)).any (·.1)=false:=by
 rw [List.all_cons,Bool.and_eq_true] at h
 refine ⟨zbF h.1,?_⟩
 have h2:=h.2
 clear h
 induction es with
 |nil=>rfl
 |cons a r ih =>
  rw [List.all_cons,Bool.and_eq_true] at h2
  rw [zbF h2.1]
  show (false || (backTo pos (starEach r env)).any (·.1))=false
  rw [ih h2.2];rfl
theorem Fits.eq {p:Par} {X:Cx} (f:Fits p X):p=⟨X.prog,X.w,X.K,X.mg,X.base,X.A⟩:=by
 obtain ⟨e1,e2,e3,e4,e5,e6,_,_⟩:=f
 rw [e1,e2,e3,e4,e5,e6]
theorem pa_sp {X:Cx} {args:List Expr} {t:A3} {sp:Sp3} {dws:List W} {dvs:List V} (m:zdt t) (hd:∀ H,Reps X.K H dws dvs) (mono:∀ ws G (Q Q':Q3),(∀ w G',Q w G'->Q' w G')->sp ws G Q XN->sp ws G Q' XN) {τ:L2.St} {H:Hp} {Q:VK} {E:XK}
  (h:lowE X.K (fun σ G Q=>t σ G fun ws G1=>sp (ws++dws) G1 Q XN) τ H Q):znE (zdp X.K sp) dvs E (lowA X.K t) τ H Q:=by
 obtain ⟨σ,G,hs,ab,h⟩:=h
 refine zfL m hs ab h fun ws G1 vs H1 g1 hs1 rs a1 h=>?_
 exact ⟨ws++dws,G1,rs.append (hd H1),a1,mono _ _ _ _ (fun w G' z v' H' g'=>z v' H' (g1.trans g')) h⟩
theorem zqR {q:Pr} {k:Nat} {nm:Str} {f:Addr} {fd:FuncData} {ps:List Str} {ds:List Value} {dvs:List V} {dws:List W} {sp:Sp3} (FO:FnOk q.prog q.w q.K q.mg q.base CX0 k f fd ps (zdp q.K sp)) (hm:q.mg nm=some (.ref f)) (hk:PySem.W.keepIn q.K (.ref f)=true)
  (hb:zc5 q.K fd ps ds) (hd:∀ H,Reps q.K H dws dvs) (hv:Vals dvs ds) (mono:∀ ws G (Q Q':Q3),(∀ w G',Q w G'->Q' w G')->sp ws G Q XN->sp ws G Q' XN) {A:Around} (hr:Room k A):FnE (q.at A) ⟨nm,fun ws G Q _=>sp (ws++dws) G Q XN⟩:=by
 intro X fits gl args t qp pos mt hn pa hnil hdb hnm
 have e:=fits.eq
 injection e with e1 e2 e3 e4 e5 e6
 subst e6
 rw [e1,e2,e3,e4,e5] at FO
 rw [e4] at hm
 rw [e3] at hk hb hd
 cases args with
 |nil =>
  refine (zl3 (p:=qp) (pos:=pos) FO hr gl hm hk hb hv zl4 hdb).imp fun τ H Q h=>?_
  obtain ⟨σ,G,hs,ab,h⟩:=h
  have h:=hnil rfl _ _ _ h
  exact ⟨dws,G,hd H,ab,h⟩
 |cons a r =>
  obtain ⟨s1,s2⟩:=za7 (env:=X.env) (pos:=pos) hn
  exact (zn6 (p:=qp) (pos:=pos) FO hr gl hm hk hb hv zl4 pa hdb s1 s2).imp fun τ H Q h=>pa_sp (args:=a::r) mt hd mono h
end L3
set_option Elab.async false
set_option linter.all false
set_option maxRecDepth 100000
set_option maxHeartbeats 8000000
namespace L3
open PySem PySem.Spec PyProof.Rows L2 PySem.SeqAt
def mkSp (C:Addr) (sp:Sp3) (dws:List W):Sp3:=fun ws G Q _=>∀ p,G p=none->sp (.ref p::(ws++dws)) (put G p (.ins C [])) (fun v G2=>v=.non/\Q (.ref p) G2) XN
theorem zqS {q:Pr} {k:Nat} {nm:Str} {C f:Addr} {fd:FuncData} {ps:List Str} {ds:List Value} {dvs:List V} {dws:List W} {sp:Sp3} (M:Mk q.K C f) (FO:FnOk q.prog q.w q.K q.mg q.base CX0 k f fd ps (zdp q.K sp)) (hm:q.mg nm=some (.ref C))
  (hb:zc5 q.K fd ps ds) (hd:∀ H,Reps q.K H dws dvs) (hv:Vals dvs ds) (mono:∀ ws G (Q Q':Q3),(∀ w G',Q w G'->Q' w G')->sp ws G Q XN->sp ws G Q' XN) {A:Around} (hr:Room (k+1) A):FnE (q.at A) ⟨nm,mkSp C sp dws⟩:=by
 intro X fits gl args t qp pos mt hn pa hnil hdb hnm
 have e:=fits.eq
 injection e with e1 e2 e3 e4 e5 e6
 subst e6
 rw [e1,e2,e3,e4,e5] at FO
 rw [e4] at hm
 rw [e3] at M hb hd
 have core:∀ (ws:List W) (G1:Hw) (vs:List V) (H H1:Hp) (Q:VK),Grow X.K H H1->Reps X.K H1 ws vs->Abs X.K H1 G1->mkSp C sp dws ws G1 (lowQ X.K H Q) XN->∀ x dx,H1 x=none->H1 dx=none->dx≠x ->
   zdp X.K sp (.ref x::(vs++dvs)) (upd (upd H1 dx (.own x)) x (.ins C dx [])) (fun v H2=>v=.non/\Q (.ref x) H2) E0:=by
  intro ws G1 vs H H1 Q g1 rs a1 h x dx hx hdx hne
  have a2:Abs X.K (upd H1 dx (.own x)) G1:=a1.tup hdx
  have g2:Grow X.K H1 (upd H1 dx (.own x)):=zaU hdx
  have hx2:(upd H1 dx (.own x)) x=none:=by rw [zam hne.symm];exact hx
  have g3:Grow X.K (upd H1 dx (.own x)) (upd (upd H1 dx (.own x)) x (.ins C dx [])):=zaU hx2
  have a3:Abs X.K (upd (upd H1 dx (.own x)) x (.ins C dx [])) (put G1 x (.ins C [])):=a2.new hx2 ⟨dx,[],rfl,rfl⟩
  refine ⟨.ref x::(ws++dws),put G1 x (.ins C []),⟨_,_,rfl,rfl,(rs.mono (g2.trans g3)).append (hd _)⟩,a3,mono _ _ _ _ (fun w G' z v' H' g' r' a'=>?_) (h x (a1.free hx))⟩
  obtain ⟨rfl,z⟩:=z
  exact ⟨r',z (.ref x) H' (g1.trans (g2.trans (g3.trans g'))) rfl a'⟩
 cases args with
 |nil =>
  refine (zlZ (p:=qp) (pos:=pos) M FO hr gl hm hb hv zl4 hdb).imp fun τ H Q h=>?_
  obtain ⟨σ,G,hs,ab,h⟩:=h
  exact core [] G [] H H Q .refl rfl ab (hnil rfl _ _ _ h)
 |cons a r =>
  obtain ⟨s1,s2⟩:=za7 (env:=X.env) (pos:=pos) hn
  refine (zn3 (p:=qp) (pos:=pos) M FO hr gl hm hb hv zl4 pa hdb s1 s2).imp fun τ H Q h=>?_
  obtain ⟨σ,G,hs,ab,h⟩:=h
  exact zfL mt hs ab h fun ws G1 vs H1 g1 hs1 rs a1 h=>core ws G1 vs H H1 Q g1 rs a1 h
abbrev RS:=List W->Hw->Q3->Prop
def zcM (sp:RS):Prop:=∀ ws G (Q Q':Q3),(∀ w G',Q w G'->Q' w G')->sp ws G Q->sp ws G Q'
def lowR (K:Frg) (sp:RS):List V->Hp->VK->Prop:=fun vs H Q=>∃ ws G,Reps K H ws vs/\Abs K H G/\sp ws G (lowQ K H Q)
theorem zhC {X:Cx} {t:A3} {sp:RS} (mt:zdt t) (mono:zcM sp) {τ:L2.St} {H:Hp} {Q:VK} (h:lowE X.K (fun σ G Q=>t σ G fun ws G1=>sp ws G1 Q) τ H Q):tCB (lowR X.K sp) (lowA X.K t) τ H Q:=by
 obtain ⟨σ,G,hs,ab,h⟩:=h
 exact zfL mt hs ab h fun ws G1 vs H1 g1 hs1 rs a1 h=>⟨ws,G1,rs,a1,mono _ _ _ _ (fun w G' z v' H' g'=>z v' H' (g1.trans g')) h⟩
theorem zgT {q:Pr} {A:Around} {nm:Str} {id:String} {sp:RS} (hm:q.mg nm=none) (hv:bootBuiltins nm=some (.builtin id)) (hc:∀ X,Fits (q.at A) X->zbV X (.builtin id) (lowR X.K sp)) (mono:zcM sp) (h0:∀ G Q,¬ sp [] G Q):FnE (q.at A) ⟨nm,fun ws G Q _=>sp ws G Q⟩:=by
 intro X fits gl args t qp pos mt hn pa hnil hdb hnm
 have hm':X.mg nm=none:=by rw [fits.mg];exact hm
 cases args with
 |nil=>exact fun pins s σ H Q I h=>absurd (hnil rfl _ _ _ h.choose_spec.choose_spec.2.2) (h0 _ _)
 |cons a r =>
  obtain ⟨s1,s2⟩:=za7 (env:=X.env) (pos:=pos) hn
  exact (zl2 (p:=qp) (pos:=pos) (hc X fits) gl hm' hv pa hnm hdb s1 s2).imp fun τ H Q h=>zhC mt mono h
theorem zoE {q:Pr} {A:Around} {nm:Str} {T:String} {sp:RS} (hm:q.mg nm=none) (hv:bootBuiltins nm=some (.type T)) (hc:∀ X,Fits (q.at A) X->zbV X (.type T) (lowR X.K sp)) (mono:zcM sp) (h0:∀ G Q,¬ sp [] G Q):FnE (q.at A) ⟨nm,fun ws G Q _=>sp ws G Q⟩:=by
 intro X fits gl args t qp pos mt hn pa hnil hdb hnm
 have hm':X.mg nm=none:=by rw [fits.mg];exact hm
 cases args with
 |nil=>exact fun pins s σ H Q I h=>absurd (hnil rfl _ _ _ h.choose_spec.choose_spec.2.2) (h0 _ _)
 |cons a r =>
  obtain ⟨s1,s2⟩:=za7 (env:=X.env) (pos:=pos) hn
  exact (zkd (p:=qp) (pos:=pos) (hc X fits) gl hm' hv pa hnm hdb s1 s2).imp fun τ H Q h=>zhC mt mono h
abbrev MS:=W->List W->Hw->Q3->Prop
def MtE (p:Par) (m:Mt3):Prop:=∀ X,Fits p X->∀ (o:Expr) (args:List Expr) (to:E3) (t:A3) (apos cpos:Pos),zbB to->zdt t->zk8 o=true->(apos.endLine==cpos.line)=true->args.length<25->args.all zbo=true ->
  PE X o (lowE X.K to)->PA X args (lowA X.K t)->(args=[]->∀ σ G Q,t σ G Q->Q [] G)->PE X (.Call (.Attribute o m.nm apos) args [] cpos) (lowE X.K fun σ G Q=>to σ G fun x G1=>tyW G1 x m.T/\t σ G1 fun ws G2=>m.sp x ws G2 Q)
def lowM (K:Frg) (sp:MS):V->List V->Hp->VK->Prop:=fun x vs H Q=>∃ w ws G,Rep K H w x/\Reps K H ws vs/\Abs K H G/\sp w ws G (lowQ K H Q)
theorem zmH {args:List Expr} {env:Env} {pos:Pos} (h:args.all zbo=true):(backTo pos (starEach args env)).all (fun x=>!x.1)=true:=by
 induction args with
 |nil=>rfl
 |cons a r ih =>
  rw [List.all_cons,Bool.and_eq_true] at h
  rw [zbF h.1]
  show (true&&(backTo pos (starEach r env)).all (fun x=>!x.1))=true
  rw [ih h.2];rfl
theorem zix {p:Par} {nm:Str} {T id:String} {sp:MS} (pa:PlainAttrs T) (slot:Slot T nm id) (hty:typeOf (.builtin id)=pure (.type "method_descriptor")) (hm:∀ X,Fits p X->MtR X id (lowM X.K sp))
  (mono:∀ x ws G (Q Q':Q3),(∀ w G',Q w G'->Q' w G')->sp x ws G Q->sp x ws G Q'):MtE p ⟨nm,T,sp⟩:=by
 intro X fits o args to t apos cpos mo mt ho hline hlen hn po pa' hnil
 cases args with
 |nil =>
  refine (zp5 pa slot hty (hm X fits) po (zdh ho) hline).imp fun τ H Q h=>?_
  obtain ⟨σ,G,hs,ab,h⟩:=h
  refine za5 mo hs ab h fun w G1 v H1 g1 hs1 rw1 a1 h=>⟨zm0 rw1 a1 h.1,w,[],G1,rw1,rfl,a1,mono _ _ _ _ _ (fun w' G' z v' H' g'=>z v' H' (g1.trans g')) (hnil rfl _ _ _ h.2)⟩
 |cons a r =>
  obtain ⟨s1,s2⟩:=za7 (env:=X.env) (pos:=cpos) hn
  refine (pe_bm pa slot hty (hm X fits) po pa' (zdh ho) ?_ hline s1 s2).imp fun τ H Q h=>?_
  .rw [zmH hn]
   have:(a::r).length+([]:List Keyword).length+(if ([]:List Keyword).isEmpty then 0 else 1)<30:=by
    show (a::r).length+0+0<30
    omega
   rw [decide_eq_true this]
   rfl
  .obtain ⟨σ,G,hs,ab,h⟩:=h
   refine za5 mo hs ab h fun w G1 v H1 g1 hs1 rw1 a1 h=>⟨zm0 rw1 a1 h.1,?_⟩
   exact zfL mt hs1 a1 h.2 fun ws G2 vs H2 g2 hs2 rs a2 h=>⟨w,ws,G2,rw1.mono g2,rs,a2,mono _ _ _ _ _ (fun w' G' z v' H' g'=>z v' H' (g1.trans (g2.trans g'))) h⟩
end L3
set_option Elab.async false
set_option linter.all false
set_option maxRecDepth 100000
set_option maxHeartbeats 8000000
namespace L3
open PySem PySem.Spec PyProof.Rows L2 PySem.SeqAt
def maxS:RS:=fun ws G Q=>match ws with
 | [.int i,.int j]=>Q (.int (if j > i then j else i)) G
 |_=>False
theorem zgI:zcM maxS:=by
 intro ws G Q Q' k h
 unfold maxS at h ⊢
 split at h
 .exact k _ _ h
 .exact h.elim
theorem zlI {K:Frg} {H:Hp} {a b:W} {vs:List V} (r:Reps K H [a,b] vs):∃ x y,vs=[x,y]/\Rep K H a x/\Rep K H b y:=by
 obtain ⟨x,t,rfl,rx,y,t',rfl,ry,rt⟩:=r
 cases (show t'=[] from rt)
 exact ⟨x,y,rfl,rx,ry⟩
theorem zdo {K:Frg} {H:Hp} {a:W} {vs:List V} (r:Reps K H [a] vs):∃ x,vs=[x]/\Rep K H a x:=by
 obtain ⟨x,t,rfl,rx,rt⟩:=r
 cases (show t=[] from rt)
 exact ⟨x,rfl,rx⟩
theorem zqj {X:Cx} (hc:X.calm=true):zbV X (.builtin "max") (lowR X.K maxS):=by
 intro pins s σ H xs us Q I r h
 obtain ⟨ws,G,rs,ab,h⟩:=h
 unfold maxS at h
 split at h
 .rename_i i j
  obtain ⟨x,y,rfl,rx,ry⟩:=zlI rs
  cases (show x=.int i from rx)
  cases (show y=.int j from ry)
  exact zk3 hc pins s σ H _ us Q I r ⟨i,j,rfl,h _ H .refl rfl ab⟩
 .exact h.elim
def lenW (G:Hw):W->Option Nat
 | .str x=>if x.length<=sizeLine then some x.length else none
 | .tup ws=>some ws.length
 | .ref p=>match G p with
  |some (.lst ws)=>some ws.length
  |some (.fix ws)=>some ws.length
  |some (.dic kvs)=>some kvs.length
  |_=>none
 |_=>none
def lenS:RS:=fun ws G Q=>match ws with
 | [x]=>(match lenW G x with | some n=>Q (.int n) G | none=>False)
 |_=>False
theorem zgM:zcM lenS:=by
 intro ws G Q Q' k h
 unfold lenS at h ⊢
 split at h
 .split at h
  .exact k _ _ h
  .exact h.elim
 .exact h.elim
theorem zoh {X:Cx}:zbV X (.builtin "len") (fun xs H Q=>∃ a kvs,xs=[V.ref a]/\H a=some (.dK kvs)/\Q (.int kvs.length) H):=by
 intro pins s σ H xs us Q I r h
 obtain ⟨a,kvs,rfl,ha,q⟩:=h
 obtain ⟨u,rfl,ru⟩:=zc6 r
 cases ru
 exact d_len I (.inl ha) fun t s' I'=>⟨.int kvs.length,H,I',⟨t,rfl⟩,q⟩
theorem zqn {X:Cx}:zbV X (.builtin "len") (lowR X.K lenS):=by
 intro pins s σ H xs us Q I r h
 obtain ⟨ws,G,rs,ab,h⟩:=h
 unfold lenS at h
 split at h
 .rename_i w
  obtain ⟨v,rfl,rv⟩:=zdo rs
  split at h
  .rename_i n hn
   have q:Q (.int n) H:=h (.int n) H .refl rfl ab
   cases w with
   |str x =>
    cases (show v=.str x from rv)
    simp only [lenW] at hn
    split at hn
    .rename_i hl
     cases hn
     exact zg1 pins s σ H _ us Q I r ⟨x,rfl,hl,q⟩
    .cases hn
   |tup ws' =>
    obtain ⟨a,vs,rfl,sq,rr⟩:=rv
    simp only [lenW] at hn
    cases hn
    exact zcd pins s σ H _ us Q I r ⟨a,vs,rfl,.inr sq,by rw [rr.length];exact q⟩
   |ref p =>
    cases (show v=.ref p from rv)
    simp only [lenW] at hn
    split at hn
    .rename_i ws' e
     cases hn
     obtain ⟨vs,sq,rr⟩:=ab.seq (show zav G p=some ws' by unfold zav;rw [e])
     exact zcd pins s σ H _ us Q I r ⟨p,vs,rfl,.inl sq,by rw [rr.length];exact q⟩
    .rename_i ws' e
     cases hn
     obtain ⟨vs,sq,rr⟩:=ab.seq (show zav G p=some ws' by unfold zav;rw [e])
     exact zcd pins s σ H _ us Q I r ⟨p,vs,rfl,.inl sq,by rw [rr.length];exact q⟩
    .rename_i kvs e
     cases hn
     obtain ⟨l,e',rl⟩:=ab.dic e
     exact zoh pins s σ H _ us Q I r ⟨p,l,rfl,e',by rw [rl.length];exact q⟩
    .cases hn
   |_=>simp [lenW] at hn
  .exact h.elim
 .exact h.elim
def za8 (G:Hw):W->Option (List W)
 | .tup ws=>some ws
 | .ref p=>zav G p
 |_=>none
def lstS:RS:=fun ws G Q=>match ws with
 | [x]=>(match za8 G x with | some xs=>∀ p,G p=none->Q (.ref p) (put G p (.lst xs)) | none=>False)
 |_=>False
theorem zgJ:zcM lstS:=by
 intro ws G Q Q' k h
 unfold lstS at h ⊢
 split at h
 .split at h
  .exact fun p hp=>k _ _ (h p hp)
  .exact h.elim
 .exact h.elim
theorem zjU {K:Frg} {H:Hp} {G:Hw} {w:W} {v:V} {xs:List W} (ab:Abs K H G) (r:Rep K H w v) (e:za8 G w=some xs):∃ a vs b,v=.ref a/\SqB b K H a vs/\Reps K H xs vs:=by
 cases w with
 |tup ws =>
  obtain ⟨a,vs,rfl,sq,rr⟩:=r
  cases e
  exact ⟨a,vs,true,rfl,sq,rr⟩
 |ref p =>
  cases (show v=.ref p from r)
  obtain ⟨vs,sq,rr⟩:=ab.seq e
  exact ⟨p,vs,false,rfl,sq,rr⟩
 |_=>cases e
theorem zql {X:Cx}:zbV X (.type "list") (lowR X.K lstS):=by
 intro pins s σ H xs us Q I r h
 obtain ⟨ws,G,rs,ab,h⟩:=h
 unfold lstS at h
 split at h
 .rename_i w
  obtain ⟨v,rfl,rv⟩:=zdo rs
  split at h
  .rename_i ys hy
   obtain ⟨a,vs,b,rfl,sq,rr⟩:=zjU ab rv hy
   refine zg0 pins s σ H _ us Q I r ⟨a,vs,rfl,?_,zb6 ab rr h⟩
   cases b
   .exact .inl sq
   .exact .inr sq
  .exact h.elim
 .exact h.elim
def allS (f:List Bool->Bool):RS:=fun ws G Q=>match ws with
 | [.ref p]=>∃ bs:List Bool,zav G p=some (bs.map .bl)/\Q (.bl (f bs)) G
 |_=>False
theorem zha (f:List Bool->Bool):zcM (allS f):=by
 intro ws G Q Q' k h
 unfold allS at h ⊢
 split at h
 .obtain ⟨bs,e,h⟩:=h
  exact ⟨bs,e,k _ _ h⟩
 .exact h.elim
theorem zeW {K:Frg} {H:Hp}:∀ {bs:List Bool} {vs:List V} {us:List Value},Reps K H (bs.map .bl) vs->Vals vs us->us=bs.map .bool
 | [],vs,us,r,v=>by cases (show vs=[] from r);cases v;rfl
 |b::bs,vs,us,r,v=>by
  obtain ⟨x,t,rfl,rx,rt⟩:=r
  cases (show x=.bl b from rx)
  cases v with
  |cons a c =>
   cases (show _=Value.bool b from a)
   rw [zeW rt c];rfl
theorem zlg (bs:List Bool):(List.range bs.length).all (fun i=>(bs[i]?).getD false)=bs.all id:=by
 rw [Bool.eq_iff_iff,List.all_eq_true,List.all_eq_true]
 constructor
 .intro h b hb
  obtain ⟨i,hi,rfl⟩:=List.mem_iff_getElem.mp hb
  have:=h i (List.mem_range.mpr hi)
  rwa [List.getElem?_eq_getElem hi] at this
 .intro h i hi
  have hi:=List.mem_range.mp hi
  rw [List.getElem?_eq_getElem hi]
  exact h _ (List.getElem_mem hi)
theorem zmZ {X:Cx} (hc:X.calm=true) {pins:List (Addr×Obj)} {s:Shared} {σ:L2.St} {H:Hp} {G:Hw} {p:Addr} {bs:List Bool} (I:Inv X pins σ H s) (ab:Abs X.K H G) (e:zav G p=some (bs.map .bl)) {A:Around} (hh:A.handled=none) {E:Value->Shared->Prop}
  {R:Value->Shared->Prop} (h:∀ (I':Addr) (s₂:Shared),Walks X.prog X.w A I' [I',p] [I'] bs.length (fun i v=>(bs.map Value.bool).toArray[i]?=some v) (fun i h=>h.IsListIter I' p i/\h.IsList p (bs.map Value.bool).toArray)->(s₂.heap.IsListIter I' p 0/\s₂.heap.IsList p (bs.map Value.bool).toArray) ->
   (∀ h' tk,(∀ b o,b∉[I']->s₂.heap.get? b=some o->h'.get? b=some o)->Inv X pins σ H { s₂ with heap:=h',toks:=tk })->R (.ref I') s₂):wpAny (model X.prog X.w) A (pyIter (.ref p)) R E s:=by
 obtain ⟨vs,sq,rr⟩:=ab.seq e
 obtain ⟨its,rv,pl,hz⟩:=I.list sq
 have eits:=zeW rr rv
 subst eits
 have hl:=pl.isList
 refine wpAny_pyIter_list hl ?_
 have hne:p≠s.heap.objs.size:=by
  obtain ⟨o,ho,_⟩:=hl
  exact Nat.ne_of_lt (Heap.lt_size ho)
 have W:=Walks.list (prog:=X.prog) (w:=X.w) hh s.heap.objs.size p hne (bs.map Value.bool).toArray
 have hn:(bs.map Value.bool).toArray.size=bs.length:=by simp
 rw [hn] at W
 refine h _ _ W ⟨⟨_,Heap.get?_push_size _ rfl,rfl,rfl⟩,hl.push _⟩ fun h' tk k=>I.kept fun b o e=>k b o (fun hm=>?_) (Heap.get?_push_of_some _ e)
 rw [List.mem_singleton] at hm
 exact Nat.ne_of_lt (Heap.lt_size e) hm
theorem zlq {P:Program} {w:World} {A:Around} {bs:List Bool}:TruthOf P w A (fun i v=>(bs.map Value.bool).toArray[i]?=some v) (fun i=>(bs[i]?).getD false):=by
 intro i v s Q E h q
 have h':(bs[i]?).map Value.bool=some v:=by simpa using h
 cases e:bs[i]? with
 |none=>rw [e] at h';cases h'
 |some b =>
  rw [e] at h'
  cases h'
  have q':Q ((bs[i]?).getD false) s:=q
  rw [e] at q'
  exact wpAny_truthy_bool q'
theorem zq5 {X:Cx} (hc:X.calm=true):zbV X (.builtin "all") (lowR X.K (allS (·.all id))):=by
 intro pins s σ H xs us Q I r h
 obtain ⟨ws,G,rs,ab,h⟩:=h
 unfold allS at h
 split at h
 .rename_i p
  obtain ⟨v,rfl,rv⟩:=zdo rs
  cases (show v=.ref p from rv)
  obtain ⟨bs,e,h⟩:=h
  obtain ⟨u,rfl,ru⟩:=zc6 r
  cases ru
  refine call_all_walk (zmZ hc I ab e (A:=X.A.in1) (I.ok.hd hc) fun I' s₂ W st k=>⟨I',_,_,_,_,_,_,rfl,W,st,zlq,fun h' tk hk=>?_⟩)
  rw [zlg]
  exact ⟨.bl (bs.all id),H,k h' tk hk,rfl,h _ H .refl rfl ab⟩
 .exact h.elim
def tyO (G:Hw):W->Option String
 | .non=>some "NoneType"
 | .bl _=>some "bool"
 | .int _=>some "int"
 | .str _=>some "str"
 | .tup _=>some "tuple"
 | .ref p=>match G p with
  |some (.lst _)=>some "list"
  |some (.fix _)=>some "list"
  |some (.dic _)=>some "dict"
  |_=>none
 |_=>none
def isiS (K:Frg):RS:=fun ws G Q=>match ws with
 | [x,.ty T]=>∃ T' b,tyO G x=some T'/\PySem.W.kitOne K (.type T') (.type T)=some b/\Q (.bl b) G
 |_=>False
end L3
set_option Elab.async false
set_option linter.all false
set_option maxRecDepth 100000
set_option maxHeartbeats 8000000
namespace L3
open PySem PySem.Spec PyProof.Rows L2 PySem.SeqAt
def popS:MS:=fun x ws G Q=>match x,ws with
 | .ref p,[]=>(match G p with
  |some (.lst xs)=>(match xs[xs.length - 1]? with | some y=>Q y (put G p (.lst xs.dropLast)) | none=>False)
  |_=>False)
 |_,_=>False
theorem zgp:∀ x ws G (Q Q':Q3),(∀ w G',Q w G'->Q' w G')->popS x ws G Q->popS x ws G Q':=by
 intro x ws G Q Q' k h
 unfold popS at h ⊢
 split at h
 .split at h
  .split at h
   .exact k _ _ h
   .exact h.elim
  .exact h.elim
 .exact h.elim
theorem zpS {X:Cx}:MtR X "list.pop" (lowM X.K popS):=by
 intro pins s σ H x xs v us Q I rx rxs h
 obtain ⟨w,ws,G,rw1,rs,ab,h⟩:=h
 unfold popS at h
 split at h
 .rename_i p
  cases (show x=.ref p from rw1)
  cases (show xs=[] from rs)
  split at h
  .rename_i ys e
   split at h
   .rename_i y ey
    obtain ⟨vs,ev,rr⟩:=ab.lst e
    obtain ⟨vy,evy,ry⟩:=rr.get ey
    have gr:Grow X.K H (upd H p (.lst vs.dropLast)):=ab.grow e
    exact zqg pins s σ H _ _ v us Q I rx rxs ⟨p,vs,vy,rfl,rfl,ev,by rw [rr.length];exact evy,h vy _ gr (ry.mono gr) (ab.chg e ⟨_,rfl,rr.dropLast.mono gr⟩)⟩
   .exact h.elim
  .exact h.elim
 .exact h.elim
def appS:MS:=fun x ws G Q=>match x,ws with
 | .ref p,[y]=>(match G p with
  |some (.lst xs)=>xs.length<sizeLine/\Q .non (put G p (.lst (xs++[y])))
  |_=>False)
 |_,_=>False
theorem zg9:∀ x ws G (Q Q':Q3),(∀ w G',Q w G'->Q' w G')->appS x ws G Q->appS x ws G Q':=by
 intro x ws G Q Q' k h
 unfold appS at h ⊢
 split at h
 .split at h
  .exact ⟨h.1,k _ _ h.2⟩
  .exact h.elim
 .exact h.elim
theorem zq3 {X:Cx}:MtR X "list.append" (lowM X.K appS):=by
 intro pins s σ H x xs v us Q I rx rxs h
 obtain ⟨w,ws,G,rw1,rs,ab,h⟩:=h
 unfold appS at h
 split at h
 .rename_i p y
  cases (show x=.ref p from rw1)
  obtain ⟨vy,rfl,ry⟩:=zdo rs
  split at h
  .rename_i ys e
   obtain ⟨vs,ev,rr⟩:=ab.lst e
   have gr:Grow X.K H (upd H p (.lst (vs++[vy]))):=ab.grow e
   exact zkn pins s σ H _ _ v us Q I rx rxs ⟨p,vs,vy,rfl,rfl,ev,by rw [rr.length];exact h.1,h.2 .non _ gr (show Rep X.K _ .non .non from rfl) (ab.chg e ⟨_,rfl,(rr.append (show Reps X.K H [y] [vy] from ⟨vy,[],rfl,ry,rfl⟩)).mono gr⟩)⟩
  .exact h.elim
 .exact h.elim
def idxS:MS:=fun x ws G Q=>match x,ws with
 | .ref p,[y]=>∃ xs,zav G p=some xs/\(pur y=true/\purs xs=true/\min (deps xs) (dep y)<=150)/\(xs.any fun w=>eqW w y)=true/\Q (.int ((xs.findIdx fun w=>eqW w y:Nat):Int)) G
 |_,_=>False
theorem zmL {X:Cx} {pins:List (Addr×Obj)} {σ:L2.St} {H:Hp} {s:Shared} (I:Inv X pins σ H s) {x:W}:∀ {ws:List W} {vs:List V} {us:List Value},Reps X.K H ws vs->Vals vs us->purs ws=true->us.map (eqI X.K H x)=ws.map fun w=>eqW w x:=by
 intro ws
 induction ws with
 |nil=>intro vs us h r _;rw [show _=[] from h] at r;cases r;rfl
 |cons w ws ih =>
  intro vs us h r p
  obtain ⟨v,t,e,h,hs⟩:=h
  subst e
  cases r with
  |cons r rs =>
   have p':=zax.mp p
   rw [List.map_cons,List.map_cons,zkR I h r p'.1,ih hs rs p'.2]
theorem zcI {α:Type} (f:α->Bool):∀ l:List α,(l.map f).findIdx id=l.findIdx f
 | []=>rfl
 |a::r=>by
  rw [List.map_cons,List.findIdx_cons,List.findIdx_cons,zcI f r]
  rfl
def rngI (ws:List W) (G:Hw) (R:List W->(Hw->Prop)->Hw->Prop):Prop:=match ws with
 | [.int j]=>(-(2 ^ 62)<=j/\j<2 ^ 62)/\R ((List.range j.toNat).map fun i=>.int (i:Nat)) (fun _=>True) G
 |_=>False
theorem zqG {K:Frg} {H1:Hp} {n:Nat}:ItIs K (Itr 0 n) H1 ((List.range n).map fun i=>W.int (i:Nat)) (fun _=>True) where
 go:=fun i H G _ ab st hi=>by show i<n;simpa using hi
 yld:=fun i H G x H' _ ab st hi y=>by
  obtain ⟨rfl,rfl⟩:=y
  have hi':i<n:=by simpa using hi
  refine ⟨.int (i:Nat),by simp [hi'],.refl,?_,ab⟩
  show V.int (0+(i:Int))=V.int (i:Int)
  rw [Int.zero_add]
 stop:=fun i H G _ ab st hi=>by show n<=i;simpa using hi
def ItE (p:Par) (i:It3):Prop:=∀ X,Fits p X->Gl X i.nm->∀ (tg:Expr) (args:List Expr) (t:A3) (q pos:Pos),zdt t->args.all zbo=true->PA X args (lowA X.K t)->(args=[]->∀ σ G Q,t σ G Q->Q [] G)->(i.nm==("__debug__" : Str))=false->i.nm ≠ "__name__" ->
  PI X tg (.Call (.Name i.nm q) args [] pos) (lowI X.K fun σ G R=>t σ G fun ws G1=>i.sp ws G1 R)
theorem zqJ {q:Pr} {A:Around} (hm:q.mg "range" = none):ItE (q.at A) ⟨"range", rngI⟩:=by
 intro X fits gl tg args t qp pos mt hn pa hnil hdb hnm
 have hm':X.mg "range" = none:=by rw [fits.mg];exact hm
 intro pins s σ H R I h
 cases args with
 |nil =>
  obtain ⟨σ3,G,hs,ab,h⟩:=h
  exact (hnil rfl _ _ _ h).elim
 |cons a r =>
  obtain ⟨s1,s2⟩:=za7 (env:=X.env) (pos:=pos) hn
  obtain ⟨σ3,G,hs,ab,h⟩:=h
  have h':=zfL (S:=fun vs H1=>∃ j:Int,vs=[.int j]/\-(2 ^ 62)<=j/\j<2 ^ 62/\R (Itr 0 j.toNat) H1) mt hs ab h fun ws G1 vs H1 g1 hs1 rs a1 h=>by
   dsimp only at h
   unfold rngI at h
   split at h
   .rename_i j
    obtain ⟨v,rfl,rv⟩:=zdo rs
    cases (show v=.int j from rv)
    exact ⟨j,rfl,h.1.1,h.1.2,h.2 _ H1 g1 a1 zqG⟩
   .exact h.elim
  refine Call_ (zd0 I gl hm' boot_range (PyProof.Rows.callWith_type1 (thn (pa pos pins s σ H _ I h') fun us s1 ⟨vs,H1,I1,r1,q1⟩=>?_) s1 s2))
  obtain ⟨j,e,q1,q2,q⟩:=q1
  subst e
  obtain ⟨u,rfl,t,rfl⟩:=zc6 r1
  exact call_range_1 (zlJ I1 (by omega) (by omega) q1 q2 (by simpa using q))
def lofM (nm:Str):Scope->Expr->Option (List Expr):=fun sc e=>match e with
 | .Call (.Name o _) [.Call (.Name x _) xs [] _] [] _=>if o==("list" : Str)&&x==nm&&glbB sc o&&glbB sc x&&!xs.isEmpty then some xs else none
 |_=>none
theorem zmj {nm:Str} {sc:Scope} {e:Expr} {xs:List Expr} (h:lofM nm sc e=some xs):∃ qo q pos pos' a r,xs=a::r/\e=.Call (.Name "list" qo) [.Call (.Name nm q) (a::r) [] pos] [] pos'/\glbB sc "list" = true/\glbB sc nm=true:=by
 have no:¬ ((none:Option (List Expr))=some xs):=fun e=>nomatch e
 cases e with
 |Call f args kws pos' =>
  cases f with
  |Name o qo =>
   cases args with
   |nil=>exact absurd h no
   |cons c rest =>
    cases c with
    |Call g ys kw2 pos =>
     cases g with
     |Name x q =>
      cases kw2 with
      |nil =>
       cases rest with
       |nil =>
        cases kws with
        |nil =>
         replace h:(if (o==("list" : Str)&&x==nm&&glbB sc o&&glbB sc x&&!ys.isEmpty)=true then some ys else none)=some xs:=h
         by_cases hb:(o==("list" : Str)&&x==nm&&glbB sc o&&glbB sc x&&!ys.isEmpty)=true
         .rw [if_pos hb] at h
          cases h
          simp only [Bool.and_eq_true,beq_iff_eq,Bool.not_eq_true',List.isEmpty_eq_false_iff] at hb
          obtain ⟨⟨⟨⟨rfl,rfl⟩,h1⟩,h2⟩,h3⟩:=hb
          cases xs with
          |nil=>exact absurd rfl h3
          |cons a r=>exact ⟨qo,q,pos,pos',a,r,rfl,rfl,h1,h2⟩
         .rw [if_neg hb] at h
          exact absurd h no
        |cons _ _=>exact absurd h no
       |cons _ _=>exact absurd h no
      |cons _ _=>exact absurd h no
     |_=>exact absurd h no
    |_=>exact absurd h no
  |_=>exact absurd h no
 |_=>exact absurd h no
def SxE (p:Par) (k:Sx3):Prop:=∀ X,Fits p X->∀ (e:Expr) (xs:List Expr) (es:List E3),k.m X.env.scope e=some xs->zjx X xs es->xs.all zbo=true->PA X xs (lowA X.K (seqA es)) ->
  PE X e (lowE X.K fun σ G Q=>seqA es σ G fun ws G1=>k.sp ws G1 Q)/\(∀ whole,isTrue e X.env whole=(do let v ← whole;standAt e.pos;holding [v] (truthy v)))/\∀ op vs pos,e≠.BoolOp op vs pos
theorem zgV {X:Cx}:∀ {xs:List Expr} {es:List E3},zjx X xs es->zdt (seqA es)
 | [],[],_=>fun σ G Q Q' k h=>k _ _ h
 |_::_,_::_,⟨m,_,r⟩=>fun σ G Q Q' k h=>m σ G _ _ (fun x G1 h=>zgV r σ G1 _ _ (fun xs G2 h=>k _ _ h) h) h
theorem zpr {q:Pr} {A:Around} {nm:Str} {T:String} {sp:RS} (hl:q.mg "list" = none) (hm:q.mg nm=none) (hv:bootBuiltins nm=some (.type T)) (mono:zcM sp)
  (hc:∀ X,Fits (q.at A) X->∀ (pins:List (Addr×Obj)) (s:Shared) (σ:L2.St) (H:Hp) (vs:List V) (us:List Value) (Q:VK),Inv X pins σ H s->Vals vs us->lowR X.K sp vs H Q ->
   wpAny (model X.prog X.w) X.A (call (.type T) us) (fun v s1=>wpAny (model X.prog X.w) X.A (call (.type "list") [v]) (EP X pins σ Q) X.xe s1) X.xe s):SxE (q.at A) ⟨lofM nm,sp⟩:=by
 intro X fits e xs es he each hn pa
 obtain ⟨qo,qq,pos,pos',a,r,rfl,rfl,g1,g2⟩:=zmj he
 obtain ⟨gl1,d1,n1⟩:=zkM rfl g1
 obtain ⟨gl2,d2,n2⟩:=zkM rfl g2
 have hl':X.mg "list" = none:=by rw [fits.mg];exact hl
 have hm':X.mg nm=none:=by rw [fits.mg];exact hm
 refine ⟨fun pins s σ H Q I h=>?_,fun _=>rfl,fun _ _ _ z=>nomatch z⟩
 obtain ⟨s1,s2⟩:=za7 (env:=X.env) (pos:=pos) hn
 have h':=zhC (zgV each) mono h
 refine wpAny_Call_Name_kw (zd0 I gl1 hl' boot_list ?_ n1 d1)
 refine PyProof.Rows.callWith_type1 (e:=.Call (.Name nm qq) (a::r) [] pos) (rest:=[]) ?_ rfl rfl
 show wpAny _ _ (spliced ((false,eval (.Call (.Name nm qq) (a::r) [] pos) X.env)::backTo pos' (starEach [] X.env))) _ _ s
 refine Calls.spliced_cons (wpAny_Call_Name_kw (zd0 I gl2 hm' hv (PyProof.Rows.callWith_type1 (thn (pa pos pins s σ H _ I h') fun us s1 ⟨vs,H1,I1,r1,q1⟩=>?_) s1 s2) n2 d2))
 exact thn (hc X fits pins s1 σ H1 vs us Q I1 r1 q1) fun v s2 z=>Calls.spliced_nil z
def zipS:RS:=fun ws G Q=>match ws with
 | [x,y]=>∃ xs ys,za8 G x=some xs/\za8 G y=some ys/\∀ p,G p=none->Q (.ref p) (put G p (.lst (List.zipWith (fun a b=>W.tup [a,b]) xs ys)))
 |_=>False
theorem zjn (n:Nat):[n+4,n+2,n+3,n,n+1].Nodup:=by
 simp
theorem ziJ (n a:Nat) (h:a<n):a∉[n+4,n+2,n+3,n,n+1]:=by
 simp only [List.mem_cons,List.not_mem_nil,or_false,not_or]
 omega
theorem zkP (n b:Nat) (h:b∈[n+4,n+2,n+3,n,n+1]):n<=b:=by
 simp only [List.mem_cons,List.not_mem_nil,or_false] at h
 omega
def Itv (K:Frg) (a:Addr) (n:Nat):It where
 go:=fun i H=>∃ xs,SqL K H a xs/\xs.length=n/\i<n
 yld:=fun i H v H'=>H'=H/\∀ xs,SqL K H a xs->xs.length=n->xs[n - 1 - i]?=some v
 stop:=fun i H=>i=n
theorem zjf:typeLookup (.type "list_reverseiterator") "__len__" = pure none:=by rw [typeLookup_type,builtinLookup_eq_fast];kernel_rfl
theorem zmh:typeLookup (.type "list_reverseiterator") "__length_hint__" = pure (some (.builtin "list_reverseiterator.__length_hint__")):=by rw [typeLookup_type,builtinLookup_eq_fast];kernel_rfl
theorem znM {P:Program} {w:World} {A:Around} {it a:Addr} {i:Int} {s:Shared} {Q:Bool->Shared->Prop} {E:Value->Shared->Prop} (st:s.heap.IsRevIter it a i) (h:∀ b,Q b s):wpAny (model P w) A (Builtin.List.listLengthHint (.ref it)) Q E s:=by
 have hT:=st.typeIs
 unfold Builtin.List.listLengthHint
 refine wpAny_bind (wpAny_specialOf hT zjf ?_)
 show wpAny _ _ (specialOf (Value.ref it) (Str.ofString "__length_hint__") >>= _) _ _ _
 refine wpAny_bind (wpAny_specialOf hT zmh ?_)
 (generalize hid:("list_reverseiterator.__length_hint__" : String)=id0;(fail_if_success (clear hid id0));wp_delta;rw [show splitId id0=some ("list_reverseiterator", "__length_hint__") from by subst hid;decide +kernel];subst hid)
 refine wpAny_bind (wpAny_isInstance (b:=true) hT (by rw [isSubtype_type];kernel_rfl) ?_)
 exact wpAny_pure (h _)
theorem zlF (P:Program) (w:World) (K:Frg) {it a:Addr} {n:Nat} (hne:a≠it):TurnL P w K "list_reverseiterator" (Itv K a n) [it] it (fun i h=>i<=n/\h.IsRevIter it a ((n:Int) - 1 - i)) where
 mem:=by simp
 ty:=fun i h ⟨_,o,ho,hc,_⟩=>⟨o,ho,hc⟩
 obj:=fun i h ⟨_,o,ho,hc,hd⟩ b hb=>by
  rw [List.mem_singleton] at hb
  subst hb
  exact ⟨o,ho,fun v z=>by rw [hd] at z;cases z⟩
 keep:=fun i h h' ⟨hi,x⟩ k=>⟨hi,x.at fun o e=>k it (by simp) o e⟩
 item:=by
  intro X e1 e2 e3 hc i pins s σ H E I hf st go
  subst e1;subst e2;subst e3
  obtain ⟨hi,st⟩:=st
  obtain ⟨xs,sq,ln,hlt⟩:=go
  obtain ⟨its,rv,pl,hz⟩:=I.list sq
  have hlx:n - 1 - i<xs.length:=by omega
  obtain ⟨u,eu,ru⟩:=rv.get (List.getElem?_eq_getElem hlx)
  have e:(n:Int) - 1 - (i:Int)=((n - 1 - i:Nat):Int):=by omega
  rw [e] at st
  refine wpAny_pyNext_rev_item st pl.isList (x:=u) (by simpa using eu) fun h' st' sb=>?_
  have e':((n - 1 - i:Nat):Int) - 1=(n:Int) - 1 - ((i+1:Nat):Int):=by omega
  rw [e'] at st'
  obtain ⟨f1,f2,f3,f4,f5,f6⟩:=hf it (by simp)
  refine ⟨u,xs[n - 1 - i],H,rfl,I.turned (t':=s.toks) (fun b o hb e=>sb.extBut b o hb e) f1 f2 f4 f5 f6,ru,⟨rfl,fun ys sq' _=>by rw [I.list_inj sq' sq];exact List.getElem?_eq_getElem hlx⟩,⟨hlt,st'⟩,fun b hb=>(hf b hb).1⟩
 done:=by
  intro X e1 e2 e3 hc i pins s σ H E I hf st stop
  subst e1;subst e2;subst e3
  obtain ⟨hi,st⟩:=st
  have hin:i=n:=stop
  subst hin
  have e:(i:Int) - 1 - (i:Int)=-1:=by omega
  rw [e] at st
  obtain ⟨f1,f2,f3,f4,f5,f6⟩:=hf it (by simp)
  exact wpAny_pyNext_rev_end (I.ok.hd hc) st fun h' k=>⟨rfl,I.turned (t':=s.toks) (fun b o hb e=>k b o hb e) f1 f2 f4 f5 f6⟩
 self:=fun A i s Q E st h=>wpAny_pyIter_revIter st.2 h
 hint:=fun A i s Q E st h=>znM st.2 h
def revS:RS:=fun ws G Q=>match ws with
 | [.ref p]=>∃ xs,zav G p=some xs/\∀ r,G r=none->Q (.ref r) (put G r (.lst xs.reverse))
 |_=>False
theorem zge:zcM revS:=by
 intro ws G Q Q' k h
 unfold revS at h ⊢
 split at h
 .obtain ⟨xs,e1,h⟩:=h
  exact ⟨xs,e1,fun p hp=>k _ _ (h p hp)⟩
 .exact h.elim
theorem zpF {X:Cx} (hc:X.calm=true) (pins:List (Addr×Obj)) (s:Shared) (σ:L2.St) (H:Hp) (vs:List V) (us:List Value) (Q:VK) (I:Inv X pins σ H s) (r:Vals vs us) (h:lowR X.K revS vs H Q) :
  wpAny (model X.prog X.w) X.A (call (.type "reversed") us) (fun v s1=>wpAny (model X.prog X.w) X.A (call (.type "list") [v]) (EP X pins σ Q) X.xe s1) X.xe s:=by
 obtain ⟨ws,G,rs,ab,h⟩:=h
 unfold revS at h
 split at h
 .rename_i p
  obtain ⟨v,rfl,rv⟩:=zdo rs
  cases (show v=.ref p from rv)
  obtain ⟨u,rfl,ru⟩:=zc6 r
  cases (show u=Value.ref p from ru)
  obtain ⟨xs,e,h⟩:=h
  obtain ⟨vs,sq,rr⟩:=ab.seq e
  obtain ⟨its,vv,pl,hz⟩:=I.list sq
  have hl:=pl.isList
  have hlt:p<s.heap.objs.size:=by
   obtain ⟨o,ho,_⟩:=hl
   exact Heap.lt_size ho
  refine call_reversed_list hl ?_
  have I1:Inv X pins σ H { s with heap:=s.heap.push (revObj p ((its.toArray.size:Int) - 1)),toks:=s.toks }:=I.kept fun b u e=>Heap.get?_push_of_some _ e
  have en:its.toArray.size=vs.length:=by rw [List.size_toArray,← vv.length]
  refine zkv hc (by decide) (by decide) I1 (zlF X.prog X.w X.K (n:=vs.length) (Nat.ne_of_lt hlt)) ⟨Nat.zero_le _,?_⟩ (fun b hb=>?_) vs.length hz
   (fun i acc H'=>H'=H/\acc=vs.reverse.take i) ⟨rfl,by simp⟩ ?_ ?_
  .refine ⟨_,Heap.get?_push_size _ rfl,rfl,?_⟩
   show Data.fields #[.ref p,rawInt ((its.toArray.size:Int) - 1)]=_
   rw [en]
   simp
  .rw [List.mem_singleton] at hb
   subst hb
   exact I.fpOk (Nat.le_refl _) (I.hok.fresh (Nat.le_refl _))
  .rintro i acc H' hi ⟨rfl,rfl⟩
   refine ⟨⟨vs,sq,rfl,hi⟩,?_⟩
   rintro v H2 ⟨rfl,e2⟩
   refine ⟨rfl,?_⟩
   have e2:=e2 vs sq rfl
   have hl':i<vs.reverse.length:=by simpa using hi
   rw [List.take_succ_eq_append_getElem hl']
   congr 2
   have:vs.reverse[i]?=some v:=by rw [List.getElem?_reverse hi];exact e2
   exact (Option.some.inj ((List.getElem?_eq_getElem hl').symm.trans this)).symm
  .rintro acc H' ⟨rfl,rfl⟩
   refine ⟨rfl,?_⟩
   rw [List.take_of_length_le (by simp)]
   exact zb6 ab rr.reverse h
 .exact h.elim
end L3
set_option Elab.async false
set_option linter.all false
set_option maxRecDepth 100000
set_option maxHeartbeats 8000000
namespace L3
open PySem PySem.Spec PyProof.Rows L2
def Keep (S:List Addr) (G G':Hw):Prop:=∀ a o,a∉S->G a=some o->G' a=some o
theorem Keep.refl {S:List Addr} {G:Hw}:Keep S G G:=fun _ _ _ h=>h
theorem Keep.trans {S:List Addr} {G G1 G2:Hw} (a:Keep S G G1) (b:Keep S G1 G2):Keep S G G2:=fun x o hx h=>b x o hx (a x o hx h)
theorem Keep.put {S:List Addr} {G:Hw} {p:Addr} {o:O} (h:p∈S):Keep S G (put G p o):=fun x u hx hu=>by
 rw [zau (fun e:x=p=>hx (e▸h))];exact hu
theorem Keep.new {S:List Addr} {G:Hw} {p:Addr} {o:O} (h:G p=none):Keep S G (L3.put G p o):=fun x u hx hu=>by
 rw [zau (zba hu h)];exact hu
theorem Keep.none {S:List Addr} {G G':Hw} {p:Addr} (k:Keep S G G') (hp:p∉S) (h:G' p=Option.none):G p=Option.none:=by
 cases e:G p with
 |none=>rfl
 |some o=>rw [k p o hp e] at h;cases h
abbrev kS:Key:=.inr "seed"
abbrev kN:Key:=.inr "number"
abbrev kL:Key:=.inr "left"
def zqY (seed num:Int) (l:Addr):O:=.dic [(kS,.int seed),(kN,.int num),(kL,.ref l)]
structure DealS (G:Hw) (d l:Addr) (seed num:Int) (left:List Int):Prop where
 dic:G d=some (zqY seed num l)
 lst:G l=some (.lst (left.map .int))
 s0:0<=seed
 s1:seed<2147483647
 n0:0<=num
 lf:∀ x∈left,(0:Int)<=x
 len:left.length<=63
 ne:d≠l
def Deal (G:Hw) (d l:Addr):Prop:=∃ seed num left,DealS G d l seed num left
theorem dgS {a b c:W}:dget [(kS,a),(kN,b),(kL,c)] kS=some a:=by rfl
theorem dgN {a b c:W}:dget [(kS,a),(kN,b),(kL,c)] kN=some b:=by
 have e1:¬ (kS=kN):=by decide +kernel
 unfold dget
 rw [List.find?_cons_of_neg (by simp [e1]),List.find?_cons_of_pos (by simp)]
 rfl
theorem dgL {a b c:W}:dget [(kS,a),(kN,b),(kL,c)] kL=some c:=by
 have e1:¬ (kS=kL):=by decide +kernel
 have e2:¬ (kN=kL):=by decide +kernel
 unfold dget
 rw [List.find?_cons_of_neg (by simp [e1]),List.find?_cons_of_neg (by simp [e2]),List.find?_cons_of_pos (by simp)]
 rfl
theorem dpN {a b c x:W}:dput [(kS,a),(kN,b),(kL,c)] kN x=[(kS,a),(kN,x),(kL,c)]:=by
 unfold dput
 have e1:¬ (kS=kN):=by decide +kernel
 have e2:¬ (kL=kN):=by decide +kernel
 simp [e1,e2]
theorem dpS {a b c x:W}:dput [(kS,a),(kN,b),(kL,c)] kS x=[(kS,x),(kN,b),(kL,c)]:=by
 unfold dput
 have e1:¬ (kN=kS):=by decide +kernel
 have e2:¬ (kL=kS):=by decide +kernel
 simp [e1,e2]
def zq0:ISs:=(.cons (.whl (.and (.cmp .Eq (.ix (.var 0) (.con (.str "number"))) (.con (.int 0))) (.cmp .Gt (.call 1 (.cons (.ix (.var 0) (.con (.str "left"))) .nil)) (.con (.int 0)))) (.cons (.asgI (.var 0) (.con (.str "number")) (.mth 0 (.ix (.var 0) (.con (.str "left"))) .nil))
 .nil))
 (.cons (.asg 2 (.ix (.var 0) (.con (.str "number"))))
 (.cons (.ite (.cmp .Gt (.var 2) (.con (.int 0))) (.cons (.asgI (.var 0) (.con (.str "number")) (.bin .FloorDiv (.var 2) (.var 1)))
 (.cons (.ret (.bin .Mod (.var 2) (.var 1)))
 .nil)) .nil)
 (.cons (.asg 3 (.bin .Mod (.bin .Add (.bin .Mult (.ix (.var 0) (.con (.str "seed"))) (.con (.int 48271))) (.con (.int 7919))) (.con (.int 2147483647))))
 (.cons (.asgI (.var 0) (.con (.str "seed")) (.bin .Mod (.bin .Add (.bin .Mult (.var 3) (.con (.int 40692))) (.con (.int 104729))) (.con (.int 2147483399))))
 (.cons (.asg 4 (.bin .Mod (.bin .Mult (.ix (.var 0) (.con (.str "seed"))) (.ix (.var 0) (.con (.str "seed")))) (.con (.int 2147483563))))
 (.cons (.ret (.bin .Mod (.bin .Add (.bin .Mult (.bin .Mod (.bin .Mult (.var 3) (.var 3)) (.con (.int 2147483629))) (.con (.int 2147483563))) (.var 4)) (.var 1)))
 .nil)))))))
abbrev eLen:Fn3:=⟨"len", fun ws G Q _=>lenS ws G Q⟩
abbrev ePop:Mt3:=⟨"pop", "list", popS⟩
theorem DealS.put {G:Hw} {d l:Addr} {seed num:Int} {left:List Int} (D:DealS G d l seed num left) {seed' num':Int} (h1:0<=seed') (h2:seed' < 2147483647) (h3:0<=num'):DealS (put G d (zqY seed' num' l)) d l seed' num' left :=
 ⟨zad,by rw [zau D.ne.symm];exact D.lst,h1,h2,h3,D.lf,D.len,D.ne⟩
theorem zjp {i j:Int}:eqW (.int i) (.int j)=decide (i=j):=by
 simp [eqW,Bool.beq_eq_decide_eq]
theorem zbM {G:Hw} {i j:Int}:eqG G (.int i) (.int j)=some (decide (i=j)):=by
 simp [eqG,pur,dep,zjp]
theorem zmb {left:List Int}:(left.map W.int)[left.length - 1]?=(left[left.length - 1]?).map W.int:=by simp
theorem modb {a m:Int} (h:0<m):0<=a % m/\a % m<m:=⟨Int.emod_nonneg _ (by omega),Int.emod_lt_of_pos _ h⟩
theorem zgW {d l:Addr} {m:Int} {G G1:Hw} {Q:Q3} {seed num:Int} {left:List Int} (D:DealS G1 d l seed num left) (kp:Keep [d,l] G G1) (hm:0<m/\m<1073741824) (few:∀ {a b c:W},[(kS,a),(kN,b),(kL,c)].length<sizeLine)
  (hq:∀ r G',0<=r->r<m->Keep [d,l] G G'->Deal G' d l->Q (.int r) G'):if decide (0<num)=true then
   CDiv num m/\[(kS,W.int seed),(kN,W.int num),(kL,W.ref l)].length<sizeLine/\0<m/\Q (W.int (num % m)) (put G1 d (O.dic [(kS,W.int seed),(kN,W.int (num / m)),(kL,W.ref l)]))
  else
   CMul seed 48271/\(0:Int)<2147483647/\CMul ((seed * 48271+7919) % 2147483647) 40692/\(0:Int)<2147483399/\[(kS,W.int seed),(kN,W.int num),(kL,W.ref l)].length<sizeLine /\
   CMul (((seed * 48271+7919) % 2147483647 * 40692+104729) % 2147483399) (((seed * 48271+7919) % 2147483647 * 40692+104729) % 2147483399)/\(0:Int)<2147483563 /\
   CMul ((seed * 48271+7919) % 2147483647) ((seed * 48271+7919) % 2147483647)/\(0:Int)<2147483629 /\
   CMul ((seed * 48271+7919) % 2147483647 * ((seed * 48271+7919) % 2147483647) % 2147483629) 2147483563/\0<m /\
   Q (W.int (((seed * 48271+7919) % 2147483647 * ((seed * 48271+7919) % 2147483647) % 2147483629 * 2147483563+((seed * 48271+7919) % 2147483647 * 40692+104729) % 2147483399 * (((seed * 48271+7919) % 2147483647 * 40692+104729) % 2147483399) % 2147483563) % m))
    (put G1 d (O.dic [(kS,W.int (((seed * 48271+7919) % 2147483647 * 40692+104729) % 2147483399)),(kN,W.int num),(kL,W.ref l)])):=by
 split
 .exact ⟨hm,few,hm.1,hq _ _ (modb hm.1).1 (modb hm.1).2 (kp.trans (Keep.put (by simp))) ⟨seed,num / m,left,D.put D.s0 D.s1 (Int.ediv_nonneg D.n0 (by omega))⟩⟩
 .have b1:=modb (a:=seed * 48271+7919) (m:=2147483647) (by decide)
  generalize (seed * 48271+7919) % 2147483647=x at b1 ⊢
  have b2:=modb (a:=x * 40692+104729) (m:=2147483399) (by decide)
  generalize (x * 40692+104729) % 2147483399=y at b2 ⊢
  refine ⟨.inr ⟨by decide,by decide⟩,by decide,.inr ⟨by decide,by decide⟩,by decide,few,.inl ⟨by omega,by omega⟩,by decide,.inl ⟨by omega,by omega⟩,by decide,.inr ⟨by decide,by decide⟩,hm.1,?_⟩
  exact hq _ _ (modb hm.1).1 (modb hm.1).2 (kp.trans (Keep.put (by simp))) ⟨y,num,left,D.put b2.1 (by omega) D.n0⟩
theorem zmO {Γ:Ctx3} (h1:Γ.fn[1]?=some eLen) (h2:Γ.mt[0]?=some ePop) {d l:Addr} {m:Int} {G:Hw} {Q:Q3} {nx:St3->Hw->Prop} (D:Deal G d l) (hm:0<m/\m<1073741824)
  (hq:∀ r G',0<=r->r<m->Keep [d,l] G G'->Deal G' d l->Q (.int r) G'):zaf Γ XN zq0 { nx:=nx,rt:=Q } [some (.ref d),some (.int m),none,none,none] G:=by
 obtain ⟨seed,num,left,D⟩:=D
 dsimp only [zq0,zaf,semS,semE,semT,sem,mkE,mkB,blE,truE,semA,conW,List.getElem?_cons_zero,List.getElem?_cons_succ,List.set_cons_zero,List.set_cons_succ]
 simp only [h1,h2]
 refine ⟨fun k σ G'=>σ=[some (.ref d),some (.int m),none,none,none]/\Keep [d,l] G G'/\∃ num left,k=left.length/\DealS G' d l seed num left,⟨_,rfl,.refl,num,left,rfl,D⟩,?_⟩
 rintro k σ G1 ⟨rfl,kp,num,left,rfl,D⟩
 have hd:G1 d=some (.dic [(kS,.int seed),(kN,.int num),(kL,.ref l)]):=D.dic
 have hl:G1 l=some (.lst (left.map .int)):=D.lst
 have hds:∀ o,(put G1 d o) d=some o:=fun o=>zad
 have hdl:∀ o,(put G1 l o) d=some (.dic [(kS,.int seed),(kN,.int num),(kL,.ref l)]):=fun o=>by rw [zau D.ne];exact hd
 have few:∀ {a b c:W},[(kS,a),(kN,b),(kL,c)].length<sizeLine:=by intros;show 3<sizeLine;rw [sizeLine_eq];decide
 simp only [List.getElem?_cons_zero,List.getElem?_cons_succ,List.set_cons_zero,List.set_cons_succ,ixR,hd,zmq,dgN,dgL,dgS,cmpR,zbM,blR,lenS,lenW,hl,List.length_map,tyW,popS,ordR,zmb,setR,hdl,hds,dpN,dpS,binR]
 by_cases hn:num=0
 .simp only [decide_eq_true hn,if_true]
  by_cases hlen:(0:Int)<(left.length:Int)
  .simp only [decide_eq_true hlen,if_true]
   have hlast:left.length - 1<left.length:=by omega
   rw [List.getElem?_eq_getElem hlast]
   simp only [Option.map_some]
   refine ⟨trivial,few,left.dropLast.length,by rw [List.length_dropLast];omega,trivial,?_,left[left.length - 1],left.dropLast,rfl,?_⟩
   .exact (kp.trans (Keep.put (by simp))).trans (Keep.put (by simp))
   .refine ⟨zad,?_,D.s0,D.s1,D.lf _ (List.getElem_mem hlast),fun x hx=>D.lf x (List.dropLast_subset _ hx),by have:=D.len;rw [List.length_dropLast];omega,D.ne⟩
    rw [zau D.ne.symm,zad,List.map_dropLast]
  .simp only [decide_eq_false hlen,zzB,if_false]
   exact zgW D kp hm few hq
 .simp only [decide_eq_false hn,zzB,if_false]
  exact zgW D kp hm few hq
theorem zcb {items:List W} {stab:Hw->Prop} {G1:Hw} {turn:W->Hw->(Option W->Hw->Prop)->Prop} {Q:Q3} (f:W->Option W) (hs:stab G1) (hl:items.length<=sizeLine) (ht:∀ w∈items,∀ K:Option W->Hw->Prop,K (f w) G1->turn w G1 K)
  (hq:∀ p,G1 p=none->Q (.ref p) (put G1 p (.lst (items.filterMap f)))):lcR items stab G1 turn Q:=by
 refine ⟨fun i acc G=>G=G1/\acc=(items.take i).filterMap f,⟨rfl,by simp⟩,?_,hl,?_,?_⟩
 .rintro i acc G ⟨rfl,rfl⟩ hi
  refine ⟨hs,Nat.le_trans (List.length_filterMap_le _ _) ?_⟩
  rw [List.length_take];omega
 .rintro i w acc G hi ⟨rfl,rfl⟩
  have hlt:i<items.length:=(List.getElem?_eq_some_iff.mp hi).1
  have hw:items[i]=w:=(List.getElem?_eq_some_iff.mp hi).2
  refine ht w (List.mem_of_getElem? hi) _ ?_
  have et:items.take (i+1)=items.take i++[w]:=by rw [List.take_succ_eq_append_getElem hlt,hw]
  cases e:f w with
  |some x=>exact ⟨rfl,by rw [et,List.filterMap_append];simp [e]⟩
  |none=>exact ⟨rfl,by rw [et,List.filterMap_append];simp [e]⟩
 .rintro acc G ⟨rfl,rfl⟩ p hp
  rw [List.take_length]
  exact hq p hp
theorem zkZ {α β:Type} (f:α->β) (xs:List α) (lo hi:Option Int):cut (xs.map f) lo hi=(cut xs lo hi).map f:=by
 unfold cut
 rw [List.length_map,List.map_take,List.map_drop]
theorem zo0 {α:Type} (xs:List α) (lo hi:Option Int):(cut xs lo hi).length<=xs.length:=by
 unfold cut
 rw [List.length_take,List.length_drop]
 omega
def zq1:ISs:=(.cons (.asg 2 (.lc (.nm 0) ["_law_cell"] [] (.val (.sl (.var 0) (.yes (.var 1)) (.yes (.con (.int 63))))) .no (.call 0 (.cons (.var 0) (.cons (.bin .Sub (.con (.int 0)) (.var 0)) .nil)))))
 (.cons (.asg 3 (.bin .Add (.con (.int 7919)) (.var 1)))
 (.cons (.for (.nm 4) (.val (.var 2)) (.cons (.asg 3 (.bin .Mod (.bin .Add (.bin .Mult (.var 3) (.con (.int 69621))) (.bin .Mod (.var 4) (.con (.int 2147483629)))) (.con (.int 2147483647))))
 .nil))
 (.cons (.ret (.dct ["seed", "number", "left"] (.cons (.var 3) (.cons (.con (.int 0)) (.cons (.spc 0 (.cons (.lc (.nm 0) ["_law_cell"] [] (.val (.var 2)) (.yes (.cmp .GtE (.var 0) (.bin .Pow (.con (.int 10)) (.con (.int 18))))) (.var 0)) .nil)) .nil)))))
 .nil))))
abbrev eMax:Fn3:=⟨"max", fun ws G Q _=>maxS ws G Q⟩
abbrev eRev:Sx3:=⟨lofM "reversed", revS⟩
def absI (x:Int):Int:=if 0 - x > x then 0 - x else x
theorem zo9 (x:Int):0<=absI x:=by unfold absI;split <;> omega
theorem zac {G:Hw} {p:Addr} {ws:List W} (h:G p=some (.lst ws)):zav G p=some ws:=by unfold zav;rw [h]
theorem dct3 {a b c:W}:zoX ["seed", "number", "left"] [a,b,c]=[(kS,a),(kN,b),(kL,c)]:=by
 have e1:¬ (kS=kN):=by decide +kernel
 have e2:¬ (kS=kL):=by decide +kernel
 have e3:¬ (kN=kL):=by decide +kernel
 simp [zoX,dput,e1,e2,e3]
def zjw (G:Hw) (w:W) (ns:List Int):Prop:=(∃ a,w=.ref a/\zav G a=some (ns.map .int))\/w=.lsf (ns.map .int)
theorem zjw.sl {G:Hw} {w:W} {ns:List Int} (h:zjw G w ns) {lo hi:Option Int} {Q:Q3} (hq:∀ r,G r=none->Q (.ref r) (put G r (.lst (cut (ns.map W.int) lo hi)))):slR w lo hi G Q:=by
 rcases h with ⟨a,rfl,e⟩ | rfl
 .simp only [slR,e];exact hq
 .exact hq
theorem zmR {Γ:Ctx3} (h0:Γ.fn[0]?=some eMax) (h2:Γ.sx[0]?=some eRev) {a:W} {base:Int} {ns:List Int} {G:Hw} {Q:Q3} {nx:St3->Hw->Prop} (hs:zjw G a ns) (hl:ns.length<=63) (hb:0<=base/\base<=1000)
  (hq:∀ d l G',G d=none->G l=none->Keep [] G G'->Deal G' d l->Q (.ref d) G'):zaf Γ XN zq1 { nx:=nx,rt:=Q } [some a,some (.int base),none,none,none] G:=by
 dsimp only [zq1,zaf,semS,semE,semT,sem,mkE,mkB,blE,truE,semA,semI,semO,semC,semG,conW,List.getElem?_cons_zero,List.getElem?_cons_succ,intR]
 simp only [h0,h2,zbc]
 refine hs.sl fun p1 hp1=>?_
 dsimp only
 have hp1':zav (put G p1 (.lst (cut (ns.map W.int) (some base) (some 63)))) p1=some (cut (ns.map W.int) (some base) (some 63)):=zac zad
 rw [hp1']
 rw [zkZ]
 generalize ecs:cut ns (some base) (some 63)=cs
 have hcl:cs.length<=63:=by rw [← ecs];exact Nat.le_trans (zo0 _ _ _) hl
 rw [zkZ,ecs] at hp1'
 refine zcb (fun w=>match w with | .int x=>some (.int (absI x)) | _=>none) hp1' (by rw [List.length_map,sizeLine_eq];omega) ?_ ?_
 .intro w hw K hK
  obtain ⟨x,hx,rfl⟩:=List.mem_map.mp hw
  simp only [capS,List.length_cons,List.length_nil,List.replicate,List.map_nil,List.append_nil,List.set_cons_zero,List.getElem?_cons_zero,binR,maxS,if_true]
  exact hK
 .intro p2 hp2
  have ef:(cs.map W.int).filterMap (fun w=>match w with | .int x=>some (.int (absI x)) | _=>none)=(cs.map absI).map W.int:=by
   rw [List.filterMap_map,List.map_map,← List.filterMap_eq_map]
   rfl
  rw [ef]
  generalize eG:put (put G p1 (.lst (cs.map W.int))) p2 (.lst ((cs.map absI).map W.int))=G2
  have kp2:Keep [] G G2:=by rw [← eG];exact (Keep.new hp1).trans (Keep.new hp2)
  have g2:G2 p2=some (.lst ((cs.map absI).map W.int)):=by rw [← eG];exact zad
  simp only [List.getElem?_cons_zero,List.getElem?_cons_succ,List.set_cons_zero,List.set_cons_succ,binR,zac g2]
  refine ⟨fun i σ G'=>G'=G2/\∃ (n:Int) (c:Option W),σ=[some a,some (.int base),some (.ref p2),some (.int n),c]/\0<=n/\n<2147483647,⟨rfl,7919+base,none,rfl,by omega,by omega⟩,?_,?_,?_⟩
  .rintro i σ G' ⟨rfl,_⟩ _
   exact zac g2
  .rintro i w σ G' hi ⟨rfl,n,c,rfl,n0,n1⟩
   have hw:=List.mem_of_getElem? hi
   obtain ⟨x,hx,rfl⟩:=List.mem_map.mp hw
   simp only [List.getElem?_cons_zero,List.getElem?_cons_succ,List.set_cons_zero,List.set_cons_succ,binR]
   exact ⟨.inr ⟨by decide,by decide⟩,by decide,by decide,trivial,_,_,rfl,(modb (by decide)).1,(modb (by decide)).2⟩
  .rintro σ G' ⟨rfl,n,c,rfl,n0,n1⟩
   intro d hd
   simp only [List.getElem?_cons_zero,List.getElem?_cons_succ]
   have g3:(put G' d (.dic [])) p2=some (.lst ((cs.map absI).map W.int)):=by rw [zau (zba g2 hd)];exact g2
   simp only [zac g3]
   refine zcb (fun w=>match w with | .int x=>if (10:Int) ^ 18<=x then some (.int x) else none | _=>none) (zac g3) (by rw [List.length_map,List.length_map,sizeLine_eq];omega) ?_ ?_
   .intro w hw K hK
    obtain ⟨x,hx,rfl⟩:=List.mem_map.mp hw
    simp only [capS,List.length_cons,List.length_nil,List.replicate,List.map_nil,List.append_nil,List.set_cons_zero,List.getElem?_cons_zero,binR,cmpR,ordR,blR]
    refine ⟨⟨by decide,by decide,by decide⟩,?_⟩
    have e18:(10:Int) ^ (18:Int).toNat=10 ^ 18:=rfl
    rw [e18]
    by_cases hx:(10:Int) ^ 18<=x
    .rw [decide_eq_true hx,if_pos rfl]
     simp only [if_pos hx] at hK
     exact hK
    .rw [decide_eq_false hx,if_neg zzN]
     simp only [if_neg hx] at hK
     exact hK
   .intro p3 hp3
    have ef:((cs.map absI).map W.int).filterMap (fun w=>match w with | .int x=>if (10:Int) ^ 18<=x then some (.int x) else none | _=>none)=((cs.map absI).filter fun x=>decide ((10:Int) ^ 18<=x)).map W.int:=by
     generalize cs.map absI=ys
     induction ys with
     |nil=>rfl
     |cons y ys ih =>
      rw [List.map_cons,List.filterMap_cons,List.filter_cons]
      by_cases hy:(10:Int) ^ 18<=y
      .simp only [if_pos hy,decide_eq_true hy,if_true,List.map_cons,ih]
      .simp only [if_neg hy,decide_eq_false hy,zzB,if_false,ih]
    rw [ef]
    generalize efl:(cs.map absI).filter (fun x=>decide ((10:Int) ^ 18<=x))=fl
    have flen:fl.length<=63:=by rw [← efl];refine Nat.le_trans (List.length_filter_le _ _) ?_;rw [List.length_map];exact hcl
    have fnn:∀ x∈fl,(0:Int)<=x:=fun x hx=>by
     rw [← efl] at hx
     obtain ⟨y,hy,rfl⟩:=List.mem_map.mp (List.mem_filter.mp hx).1
     exact zo9 y
    refine ⟨fl.map W.int,zac zad,fun l hl'=>?_⟩
    have ned:d≠l:=fun e=>by
     subst e
     rw [zau (zba zad hp3),zad] at hl'
     cases hl'
    have np3:d≠p3:=zba zad hp3
    refine ⟨by rw [zau ned,zau np3,zad],rfl,?_⟩
    rw [dct3]
    refine hq d l _ (kp2.none (by simp) hd) ?_ ?_ ⟨n,0,fl.reverse,zad,?_,n0,n1,by omega,fun x hx=>fnn x (List.mem_reverse.mp hx),by rw [List.length_reverse];exact flen,ned⟩
    .have k3:Keep [] G (put (put G' d (.dic [])) p3 (.lst (fl.map W.int))):=(kp2.trans (Keep.new hd)).trans (Keep.new hp3)
     exact k3.none (by simp) hl'
    .intro x u hx hu
     rw [zau (zba hu (kp2.none (by simp) hd))]
     exact ((((kp2.trans (Keep.new hd)).trans (Keep.new hp3)).trans (Keep.new hl')) x u hx hu)
    .rw [zau ned.symm,zad,← List.map_reverse]
end L3
set_option Elab.async false
set_option linter.all false
set_option maxRecDepth 100000
set_option maxHeartbeats 8000000
namespace L3
open PySem PySem.Spec PyProof.Rows L2
structure FunD (K:Frg) (x qual:Str) (st:Stmt) (dV:Value) (f:Addr) (fd:FuncData):Prop where
 ex:∃ (oc:Value) (od:Option Addr) (kV doc pm:Value) (an:Option Addr) (cdv ct:Value) (osl:Array (Option Value)),
  fd=PySem.W.fnOf x qual (zak st) (zae st) (zaa st) dV kV doc pm an cdv ct/\K.lookup f=some ⟨oc,od,.func fd,osl⟩/\PySem.W.codeIn K cdv qual=true
 kp:PySem.W.keepIn K (.ref f)=true
theorem zfG {Γ:Ctx3} {q:Pr} {k:Nat} {M:MC} {x qual:Str} {st:Stmt} {dV:Value} {f:Addr} {fd:FuncData} {ps:List Str} {sp:Sp3} {body:ISs} (F:FunD q.K x qual st dV f fd) (S:FnScope M.N ps (zaa st)) (g:∀ A,Room k A->Good Γ (q.at A))
  (eM:MOk Γ M (zaa st)) (hm:mSs body M (zae st)=true) (len:∀ ws G Q,sp ws G Q XN->ws.length=ps.length)
  (hb:∀ ws G Q,sp ws G Q XN->zaf Γ XN body { nx:=fun _ G'=>Q .non G',rt:=Q } (zap M.N ws) G):FnOk q.prog q.w q.K q.mg q.base CX0 (k+1) f fd ps (zdp q.K sp):=by
 obtain ⟨oc,od,kV,doc,pm,an,cdv,ct,osl,rfl,lk,hcd⟩:=F.ex
 refine fn_of lk hcd S (fun vs H Q E h=>?_) fun A outer s H vs Q E hr h=>?_
 .obtain ⟨ws,G,rs,ab,h⟩:=h
  rw [rs.length];exact len ws G _ h
 .obtain ⟨ws,G,rs,ab,h⟩:=h
  have gg:=g _ hr
  refine ⟨lowS q.K (zaf Γ XN body),PSs.nox (sndSs gg body M _ (zae st) ?_ hm),?_⟩
  .exact ⟨⟨rfl,rfl,rfl,rfl,rfl,rfl,rfl,rfl⟩,rfl,eM.sc.symm,S.nd,fun _ _=>rfl,by rw [eM.sc];exact S.kind,eM.fns,eM.gls,eM.mts,eM.its,eM.sxs,eM.ixs⟩
  .refine ⟨zap M.N ws,G,_,zjK rs,ab,⟨?_,?_,?_,?_⟩,hb ws G _ h⟩
   .exact fun σ G' τ H' g' _ a' z=>z .non H' g' (show Rep q.K H' .non .non from rfl) a'
   .exact fun σ G' τ H' g' _ a' z=>z.elim
   .exact fun σ G' τ H' g' _ a' z=>z.elim
   .exact fun w G' v H' g' r' a' z=>z v H' g' r' a'
structure HD (K:Frg) (x qual:Str) (st:Stmt) (dV:Value) (f:Addr):Prop where
 ex:∃ (oc:Value) (od an:Option Addr) (osl:Array (Option Value)) (kV doc pm cdv ct:Value),K.lookup f=some ⟨oc,od,.func (PySem.W.fnOf x qual (zak st) (zae st) (zaa st) dV kV doc pm an cdv ct),osl⟩/\PySem.W.codeIn K cdv qual=true
 kp:PySem.W.keepIn K (.ref f)=true
theorem HD.mk' {K:Frg} {x qual:Str} {st:Stmt} {dV:Value} {f:Addr} {oc:Value} {od an:Option Addr} {osl:Array (Option Value)} {kV doc pm cdv ct:Value}
  (l:K.lookup f=some ⟨oc,od,.func (PySem.W.fnOf x qual (zak st) (zae st) (zaa st) dV kV doc pm an cdv ct),osl⟩) (c:PySem.W.codeIn K cdv qual=true) (k:PySem.W.keepIn K (.ref f)=true):HD K x qual st dV f:=⟨⟨oc,od,an,osl,kV,doc,pm,cdv,ct,l,c⟩,k⟩
theorem HD.fd {K:Frg} {x qual:Str} {st:Stmt} {dV:Value} {f:Addr} (h:HD K x qual st dV f):∃ fd,FunD K x qual st dV f fd/\∃ kV doc pm an cdv ct,fd=PySem.W.fnOf x qual (zak st) (zae st) (zaa st) dV kV doc pm an cdv ct:=by
 obtain ⟨oc,od,an,osl,kV,doc,pm,cdv,ct,l,c⟩:=h.ex
 exact ⟨_,⟨⟨oc,od,kV,doc,pm,an,cdv,ct,osl,rfl,l,c⟩,h.kp⟩,kV,doc,pm,an,cdv,ct,rfl⟩
def zhZ (f:Fn3):Prop:=∀ ws G (Q Q':Q3) E,(∀ w G',Q w G'->Q' w G')->f.sp ws G Q E->f.sp ws G Q' E
def zc4 (p:Par) (f:Fn3):Prop:=FnE p f/\zhZ f
def zhb (m:Mt3):Prop:=∀ x ws G (Q Q':Q3),(∀ w G',Q w G'->Q' w G')->m.sp x ws G Q->m.sp x ws G Q'
def zhd (m:It3):Prop:=∀ ws G (R R':List W->(Hw->Prop)->Hw->Prop),(∀ a b c,R a b c->R' a b c)->m.sp ws G R->m.sp ws G R'
def GlE (p:Par) (g:Str×W):Prop:=∀ X,Fits p X->Gl X g.1->∀ q:Pos,(g.1==("__debug__" : Str))=false->g.1 ≠ "__name__" -> PE X (.Name g.1 q) (lowE X.K fun _ G Q=>Q g.2 G)
theorem zoC {Γ:Ctx3} {p:Par} (un:p.A.units+200<cLine) (fn:∀ f∈Γ.fn,zc4 p f) (gl:∀ g∈Γ.gl,GlE p g) (mt:∀ m∈Γ.mt,MtE p m/\zhb m) (it:∀ i∈Γ.it,ItE p i/\zhd i)
  (cl:∀ c∈Γ.cl,Cls p.K c.1/\∀ f∈c.2,zcu p.K c.1 f) (sx:∀ k∈Γ.sx,SxE p k/\zcM k.sp) (ix:Γ.ix=[]):Good Γ p where
 mono:=⟨fun f hf=>(fn f hf).2,fun m hm=>(mt m hm).2,fun i hi=>(it i hi).2,fun k hk=>(sx k hk).2,fun k hk=>by rw [ix] at hk;cases hk⟩
 un:=un
 fn:=fun f hf=>(fn f hf).1
 gl:=gl
 mt:=fun m hm=>(mt m hm).1
 it:=fun i hi=>(it i hi).1
 cl:=cl
 sx:=fun k hk=>(sx k hk).1
 ix:=fun k hk=>by rw [ix] at hk;cases hk
theorem zbk {α:Type} {P:α->Prop}:∀ x∈([]:List α),P x:=fun _ h=>nomatch h
theorem zai {α:Type} {P:α->Prop} {a:α} {l:List α} (h:P a) (t:∀ x∈l,P x):∀ x∈a::l,P x:=fun x hx=>by
 rcases List.mem_cons.mp hx with rfl | hx
 .exact h
 .exact t x hx
theorem zd3 {α:Type} {P:α->Prop} {a:α} {l:List α} (t:∀ x∈l,P x) (h:P a):∀ x∈l++[a],P x:=fun x hx=>by
 rcases List.mem_append.mp hx with hx | hx
 .exact t x hx
 .rw [List.mem_singleton.mp hx];exact h
theorem zhK {q:Pr} {A:Around} {x:Str} {T:String} (hm:q.mg x=none) (hv:bootBuiltins x=some (.type T)):GlE (q.at A) (x,.ty T):=by
 intro X fits gl qp hd hn
 have hm':X.mg x=none:=by rw [fits.mg];exact hm
 refine (zn7 (v:=.ty T) gl hm' hv rfl hn hd).imp fun τ H Q h=>?_
 obtain ⟨σ,G,hs,ab,h⟩:=h
 exact h (.ty T) H .refl rfl ab
theorem zj1:zhd ⟨"range", rngI⟩:=by
 intro ws G R R' k h
 replace h:rngI ws G R:=h
 show rngI ws G R'
 unfold rngI at h ⊢
 split at h
 .exact ⟨h.1,k _ _ _ h.2⟩
 .exact h.elim
def zjO:Sp3:=fun ws G Q _=>∃ a base ns,ws=[a,.int base]/\zjw G a ns/\ns.length<=63/\(0<=base/\base<=1000)/\∀ d l G',G d=none->G l=none->Keep [] G G'->Deal G' d l->Q (.ref d) G'
def zjN:Sp3:=fun ws G Q _=>∃ d l m,ws=[.ref d,.int m]/\Deal G d l/\(0<m/\m<1073741824)/\∀ r G',0<=r->r<m->Keep [d,l] G G'->Deal G' d l->Q (.int r) G'
theorem zhj:zhZ ⟨"_law_deal", zjO⟩:=fun ws G Q Q' E k hh=>by
 obtain ⟨a,b,ns,h1,h2,h3,h4,h⟩:=hh
 exact ⟨a,b,ns,h1,h2,h3,h4,fun d l G' a b c e=>k _ _ (h d l G' a b c e)⟩
theorem zhi:zhZ ⟨"_law_draw", zjN⟩:=fun ws G Q Q' E k hh=>by
 obtain ⟨a,b,m,h1,h2,h3,h⟩:=hh
 exact ⟨a,b,m,h1,h2,h3,fun d l a b c e=>k _ _ (h d l a b c e)⟩
abbrev zqV:Fn3:=⟨"_law_deal", zjO⟩
abbrev zhN:Fn3:=⟨"_law_draw", zjN⟩
abbrev eAll:Fn3:=⟨"all", fun ws G Q _=>allS (·.all id) ws G Q⟩
abbrev eLst:Fn3:=⟨"list", fun ws G Q _=>lstS ws G Q⟩
abbrev eIsi (K:Frg):Fn3:=⟨"isinstance", fun ws G Q _=>isiS K ws G Q⟩
abbrev eIdx:Mt3:=⟨"index", "list", idxS⟩
abbrev eZip:Sx3:=⟨lofM "zip", zipS⟩
abbrev eRng:It3:=⟨"range", rngI⟩
section
variable {q : Pr} {A : Around} {k : Nat}
theorem zoO (hm:q.mg "max" = none):zc4 (q.at A) eMax:=⟨zgT hm (by decide +kernel) (fun X f=>zqj f.calm) zgI (fun _ _ h=>h),fun ws G Q Q' _ k h=>zgI ws G Q Q' k h⟩
theorem zoQ (hm:q.mg "len" = none):zc4 (q.at A) eLen:=⟨zgT hm (by decide +kernel) (fun X f=>zqn) zgM (fun _ _ h=>h),fun ws G Q Q' _ k h=>zgM ws G Q Q' k h⟩
theorem zoU (hm:q.mg "all" = none):zc4 (q.at A) eAll:=⟨zgT hm (by decide +kernel) (fun X f=>zq5 f.calm) (zha _) (fun _ _ h=>h),fun ws G Q Q' _ k h=>zha _ ws G Q Q' k h⟩
theorem zoP (hm:q.mg "list" = none):zc4 (q.at A) eLst:=⟨zoE hm (by decide +kernel) (fun X f=>zql) zgJ (fun _ _ h=>h),fun ws G Q Q' _ k h=>zgJ ws G Q Q' k h⟩
theorem zoN:MtE (q.at A) ePop/\zhb ePop:=⟨zix PySem.F.plainAttrs_list PySem.F.slot_list_pop PySem.F.type_list_pop (fun X f=>zpS) zgp,zgp⟩
theorem zoK (hm:q.mg "range" = none):ItE (q.at A) eRng/\zhd eRng:=⟨zqJ hm,zj1⟩
theorem zoL (hl:q.mg "list" = none) (hm:q.mg "reversed" = none):SxE (q.at A) eRev/\zcM eRev.sp:=⟨zpr hl hm (by decide +kernel) zge (fun X f=>zpF f.calm),zge⟩
end
end L3
set_option Elab.async false
set_option linter.all false
set_option maxRecDepth 100000
set_option maxHeartbeats 8000000
namespace L3
open PySem PySem.Spec PyProof.Rows L2
theorem FnE.imp {p:Par} {nm:Str} {sp sp':Sp3} (h:FnE p ⟨nm,sp'⟩) (k:∀ ws G Q,sp ws G Q XN->sp' ws G Q XN):FnE p ⟨nm,sp⟩:=by
 intro X fits gl args t qp pos mt hn pa hnil hdb hnm
 refine (h X fits gl args t qp pos mt hn pa hnil hdb hnm).imp fun τ H Q z=>?_
 obtain ⟨σ,G,hs,ab,z⟩:=z
 exact ⟨σ,G,hs,ab,mt σ G _ _ (fun ws G1 z=>k _ _ _ z) z⟩
theorem zfK {K:Frg} {x qual:Str} {st:Stmt} {f:Addr} {fd:FuncData} {ps:List Str} (F:FunD K x qual st .none f fd)
  (h:∀ (kV doc pm:Value) (an:Option Addr) (cdv ct:Value) (us:List Value),us.length=ps.length->bindArgs (PySem.W.fnOf x qual (zak st) (zae st) (zaa st) .none kV doc pm an cdv ct) ⟨us,[]⟩=pure (ps.zip us)):zc5 K fd ps []:=by
 obtain ⟨oc,od,kV,doc,pm,an,cdv,ct,osl,rfl,lk,hcd⟩:=F.ex
 exact .all (h kV doc pm an cdv ct)
theorem zhM {q:Pr} {j k:Nat} {nm:Str} {f:Addr} {fd:FuncData} {ps:List Str} {sp:Sp3} (FO:FnOk q.prog q.w q.K q.mg q.base CX0 j f fd ps (zdp q.K sp)) (hm:q.mg nm=some (.ref f)) (hk:PySem.W.keepIn q.K (.ref f)=true) (hb:zc5 q.K fd ps [])
  (mono:zhZ ⟨nm,sp⟩) {A:Around} (hr:Room k A) (hjk:j<=k):zc4 (q.at A) ⟨nm,sp⟩ :=
 ⟨(zqR (dws:=[]) (dvs:=[]) (FO.mono hjk) hm hk hb (fun _=>rfl) .nil (fun ws G Q Q' z h=>mono ws G Q Q' XN z h) hr).imp fun ws G Q h=>by rw [List.append_nil];exact h,mono⟩
def ziV:Sp3:=fun ws G Q _=>∃ a ns,ws=[a]/\zjw G a ns/\ns.length<=63/\∀ G',Q (.bl true) G'
theorem zcR {K:Frg} {H:Hp}:∀ ns:List Int,Reps K H (ns.map W.int) (ns.map V.int)
 | []=>rfl
 |n::ns=>⟨.int n,_,rfl,rfl,zcR ns⟩
theorem zkz {K:Frg} {H:Hp} {a:Addr} {ns:List Int} (hl:ns.length<=63) (hS:SqL K H a (ns.map V.int)):zdp K ziV [.ref a] H (fun v _=>v=.bl true) fun _ _ _=>False:=by
 rcases hS with hS | hS
 .refine ⟨[.ref a],fun b=>if b=a then some (.fix (ns.map W.int)) else none,⟨_,[],rfl,rfl,rfl⟩,?_,.ref a,ns,rfl,.inl ⟨a,rfl,by simp [zav]⟩,hl,fun G' v H' _ r _=>r⟩
  intro b o e
  dsimp only at e
  by_cases hb:b=a
  .subst hb
   rw [if_pos rfl] at e
   cases e
   rcases hS with hS | ⟨ob,hS⟩
   .exact ⟨_,hS,_,default,.inl rfl,zcR ns⟩
   .exact ⟨_,hS,_,ob,.inr rfl,zcR ns⟩
  .rw [if_neg hb] at e;cases e
 .exact ⟨[.lsf (ns.map W.int)],fun _=>none,⟨_,[],rfl,⟨a,_,rfl,hS,zcR ns⟩,rfl⟩,(fun b o e=>nomatch e),.lsf (ns.map W.int),ns,rfl,.inr rfl,hl,fun G' v H' _ r _=>r⟩
theorem walk3 {l:PySem.W.OpenLaw} {k:Nat} {q:Program} {loose:List Str} {XP:(Str->Option Value)->Heap->Prop} {YP:World->Heap->Prop} {d:DefRec} {K:Params->PySem.W.Frag} (hn:l.most=some 63) (hdf:d.params.defaults=[]) (hr:Room k callerA)
  (hY:∀ (w:World) (h:Heap),YP w h->(K w.params).In h)
  (F:∀ (w:World) (mg:Str->Option Value) (fa:Addr) (h:Heap),(K w.params).In h->h.Ns mainGlobals mg->mg d.name=some (.ref fa) ->
   ∃ fd:FuncData,(∀ (s:Shared) (u:Value),BindsTo s fd ⟨[u],[]⟩ [("_law_script", u)])/\∀ base:Heap,(K w.params).In base->base.Ns mainGlobals mg->FnOk l.prog w (K w.params) mg base CX0 k fa fd ["_law_script"] (zdp (K w.params) ziV)) :
  PySem.W.WalkO q loose XP YP l.row.toRowW d [] (fun f vs=>PySem.call f vs) :=
 L2.walk_of (n:=63) (k:=k) (x := "_law_script") (CX:=fun _=>CX0) (sp:=fun w=>zdp (K w.params) ziV) hn (by decide) hdf hr hY F (fun _ _ a ns hl _ hS=>zkz hl hS) fun _ _ _ _ _ z=>z
end L3
set_option Elab.async false
set_option linter.all false
set_option maxRecDepth 100000
set_option maxHeartbeats 8000000
namespace L3
open PySem PySem.Spec PyProof.Rows L2 PySem.SeqAt
def zjk:MS:=fun x ws G Q=>match x,ws with
 | .str sep,[.ref p]=>∃ ts:List Str,zav G p=some (ts.map .str)/\JoinOk sep ts=true/\Q (.str (Txt.join sep ts)) G
 |_,_=>False
theorem zeQ:∀ x ws G (Q Q':Q3),(∀ w G',Q w G'->Q' w G')->zjk x ws G Q->zjk x ws G Q':=by
 intro x ws G Q Q' k h
 unfold zjk at h ⊢
 split at h
 .obtain ⟨ts,e,o,h⟩:=h
  exact ⟨ts,e,o,k _ _ h⟩
 .exact h.elim
theorem zfU {K:Frg} {H:Hp}:∀ {ts:List Str} {vs:List V} {us:List Value},Reps K H (ts.map .str) vs->Vals vs us->∃ l:List (Str×Tok),l.map (·.1)=ts/\us=strValues l
 | [],vs,us,r,v=>by cases (show vs=[] from r);cases v;exact ⟨[],rfl,rfl⟩
 |t::ts,vs,us,r,v=>by
  obtain ⟨x,tl,rfl,rx,rt⟩:=r
  cases (show x=.str t from rx)
  cases v with
  |cons a c =>
   obtain ⟨tk,rfl⟩:=a
   obtain ⟨l,e1,e2⟩:=zfU rt c
   exact ⟨(t,tk)::l,by rw [List.map_cons,e1],by rw [e2];rfl⟩
theorem zon {X:Cx}:MtR X "str.join" (lowM X.K zjk):=by
 intro pins s σ H x xs v us Q I rx rxs h
 obtain ⟨w,ws,G,rw1,rs,ab,h⟩:=h
 unfold zjk at h
 split at h
 .rename_i sep p
  cases (show x=.str sep from rw1)
  obtain ⟨y,rfl,ry⟩:=zdo rs
  cases (show y=.ref p from ry)
  obtain ⟨u,rfl,ru⟩:=zc6 rxs
  cases (show u=Value.ref p from ru)
  obtain ⟨t,rfl⟩:=rx
  obtain ⟨ts,e,ok,h⟩:=h
  obtain ⟨vs,sq,rr⟩:=ab.seq e
  obtain ⟨its,vv,pl,hz⟩:=I.list sq
  obtain ⟨l,e1,e2⟩:=zfU rr vv
  subst e2
  exact SC.join pl.isList e1 ok fun t' k=>⟨.str (Txt.join sep ts),H,I.tok _,⟨t',rfl⟩,h _ H .refl rfl ab⟩
 .exact h.elim
abbrev zmN:Mt3:=⟨"join", "str", zjk⟩
theorem zmM {q:Pr} {A:Around}:MtE (q.at A) zmN/\zhb zmN:=⟨zix PySem.F.plainAttrs_str PySem.F.slot_str_join PySem.F.type_str_join (fun X f=>zon) zeQ,zeQ⟩
def intS:RS:=fun ws G Q=>match ws with
 | [.int i]=>Q (.int i) G
 | [.bl b]=>Q (.int (if b then 1 else 0)) G
 |_=>False
theorem zgP:zcM intS:=by
 intro ws G Q Q' k h
 unfold intS at h ⊢
 split at h
 .exact k _ _ h
 .exact k _ _ h
 .exact h.elim
theorem zqP {X:Cx}:zbV X (.type "int") (lowR X.K intS):=by
 intro pins s σ H xs us Q I r h
 obtain ⟨ws,G,rs,ab,h⟩:=h
 unfold intS at h
 split at h
 .rename_i i
  obtain ⟨v,rfl,rv⟩:=zdo rs
  cases (show v=.int i from rv)
  exact zg2 pins s σ H _ us Q I r (.inl ⟨i,rfl,h _ H .refl rfl ab⟩)
 .rename_i b
  obtain ⟨v,rfl,rv⟩:=zdo rs
  cases (show v=.bl b from rv)
  exact zg2 pins s σ H _ us Q I r (.inr ⟨b,rfl,h _ H .refl rfl ab⟩)
 .exact h.elim
abbrev eInt:Fn3:=⟨"int", fun ws G Q _=>intS ws G Q⟩
theorem zoS {q:Pr} {A:Around} (hm:q.mg "int" = none):zc4 (q.at A) eInt:=⟨zoE hm (by decide +kernel) (fun X f=>zqP) zgP (fun _ _ h=>h),fun ws G Q Q' _ k h=>zgP ws G Q Q' k h⟩
theorem zqr {X:Cx} {pins:List (Addr×Obj)} {σ:L2.St} {H:Hp} {s:Shared} {G:Hw} {w:W} {v:V} {u:Value} {T:String} (I:Inv X pins σ H s) (ab:Abs X.K H G) (rv:Rep X.K H w v) (ru:RelV v u) (ty:tyO G w=some T) :
  ∃ HH:Heap->Prop,PySem.W.KitX X.K u (.type T) HH/\HH s.heap/\u≠.builtin "__main__.__loader__#opaque" := by
 cases w with
 |non=>cases ty;cases (show v=.non from rv);cases (show u=Value.none from ru);exact ⟨_,PySem.W.kitx_none,True.intro,fun z=>nomatch z⟩
 |bl x=>cases ty;cases (show v=.bl x from rv);cases (show u=Value.bool x from ru);exact ⟨_,PySem.W.kitx_bool,True.intro,fun z=>nomatch z⟩
 |int x=>cases ty;cases (show v=.int x from rv);obtain ⟨t,rfl⟩:=(show ∃ t,u=Value.int x t from ru);exact ⟨_,PySem.W.kitx_int,True.intro,fun z=>nomatch z⟩
 |str x=>cases ty;cases (show v=.str x from rv);obtain ⟨t,rfl⟩:=(show ∃ t,u=Value.str x t from ru);exact ⟨_,PySem.W.kitx_str,True.intro,fun z=>nomatch z⟩
 |tup ws' =>
  cases ty
  obtain ⟨a,vs,rfl,sq,rr⟩:=rv
  cases (show u=Value.ref a from ru)
  obtain ⟨its,_,p,_⟩:=I.tuple sq
  obtain ⟨o,h1,h2,_⟩:=p
  exact ⟨_,PySem.W.kitx_tuple,⟨o,h1,h2⟩,fun z=>nomatch z⟩
 |ref p =>
  cases (show v=.ref p from rv)
  cases (show u=Value.ref p from ru)
  simp only [tyO] at ty
  have lk:∀ ws',zav G p=some ws'->∃ HH:Heap->Prop,PySem.W.KitX X.K (.ref p) (.type "list") HH/\HH s.heap/\Value.ref p≠.builtin "__main__.__loader__#opaque" := fun ws' el=>by
   obtain ⟨vs,sq,rr⟩:=ab.seq el
   obtain ⟨its,_,pl,_⟩:=I.list sq
   obtain ⟨o,ho,hc,_⟩:=pl.isList
   exact ⟨_,PySem.W.kitx_list,⟨o,ho,hc⟩,fun z=>nomatch z⟩
  split at ty
  .rename_i ws' eg
   cases ty
   exact lk ws' (by unfold zav;rw [eg])
  .rename_i ws' eg
   cases ty
   exact lk ws' (by unfold zav;rw [eg])
  .rename_i kvs eg
   cases ty
   obtain ⟨l,e',rl⟩:=ab.dic eg
   obtain ⟨_,_,vs,_,o,_,_,e1,e2,_⟩:=(show zbn X.prog X.w H s.heap p (.dK l) from I.hok p _ e')
   exact ⟨_,PySem.W.kitx_dict,⟨o,e1,e2.1⟩,fun z=>nomatch z⟩
  .cases ty
 |_=>cases ty
def zlo:List W->Option (List String)
 | []=>some []
 | .ty T::r=>(zlo r).map (T::·)
 |_=>none
theorem zh3 {K:Frg} {H:Hp}:∀ {ws:List W} {Ts:List String} {vs:List V} {us:List Value},zlo ws=some Ts->Reps K H ws vs->Vals vs us->us=Ts.map .type
 | [],Ts,vs,us,e,r,v=>by cases e;cases (show vs=[] from r);cases v;rfl
 |w::ws,Ts,vs,us,e,r,v=>by
  cases w with
  |ty T =>
   simp only [zlo] at e
   obtain ⟨Ts',e',rfl⟩:=Option.map_eq_some_iff.mp e
   obtain ⟨x,tl,rfl,rx,rt⟩:=r
   cases (show x=.ty T from rx)
   cases v with
   |cons a c =>
    cases (show _=Value.type T from a)
    rw [zh3 e' rt c];rfl
  |_=>cases e
def isjS (K:Frg):RS:=fun ws G Q=>match ws with
 | [x,.ty T]=>∃ T' b,tyO G x=some T'/\PySem.W.kitOne K (.type T') (.type T)=some b/\Q (.bl b) G
 | [x,.tup ts]=>∃ T' b Ts,tyO G x=some T'/\zlo ts=some Ts/\PySem.W.kitAny K (.type T') (Ts.map .type)=some b/\Q (.bl b) G
 |_=>False
theorem zgO (K:Frg):zcM (isjS K):=by
 intro ws G Q Q' k h
 unfold isjS at h ⊢
 split at h
 .obtain ⟨T',b,e,e',h⟩:=h
  exact ⟨T',b,e,e',k _ _ h⟩
 .obtain ⟨T',b,Ts,e,e',e2,h⟩:=h
  exact ⟨T',b,Ts,e,e',e2,k _ _ h⟩
 .exact h.elim
theorem zqK {X:Cx}:zbV X (.builtin "isinstance") (lowR X.K (isjS X.K)):=by
 intro pins s σ H xs us Q I r h
 obtain ⟨ws,G,rs,ab,h⟩:=h
 unfold isjS at h
 split at h
 .rename_i w T
  obtain ⟨v,y,rfl,rv,ry⟩:=zlI rs
  cases (show y=.ty T from ry)
  obtain ⟨u,c,rfl,ru,rc⟩:=zll r
  cases (show c=Value.type T from rc)
  obtain ⟨T',b,ty,e,h⟩:=h
  obtain ⟨HH,kx,hp,hb⟩:=zqr I ab rv ru ty
  exact PySem.W.kia_one kx I.kIn hp e hb fun tk=>⟨.bl b,H,I.tok _,rfl,h _ H .refl rfl ab⟩
 .rename_i w ts
  obtain ⟨v,y,rfl,rv,ry⟩:=zlI rs
  obtain ⟨u,c,rfl,ru,rc⟩:=zll r
  obtain ⟨T',b,Ts,ty,et,e,h⟩:=h
  obtain ⟨a,vs,rfl,sq,rr⟩:=ry
  cases (show c=Value.ref a from rc)
  obtain ⟨its,vv,p,_⟩:=I.tuple sq
  obtain ⟨⟨oc,od,dt,sl⟩,h1,h2,n,h3⟩:=p
  cases (show oc=_ from h2)
  cases (show dt=_ from h3)
  have ei:=zh3 et rr vv
  subst ei
  obtain ⟨HH,kx,hp,hb⟩:=zqr I ab rv ru ty
  exact PySem.W.kia_tup kx I.kIn hp h1 e hb fun tk=>⟨.bl b,H,I.tok _,rfl,h _ H .refl rfl ab⟩
 .exact h.elim
abbrev eIsj (K:Frg):Fn3:=⟨"isinstance", fun ws G Q _=>isjS K ws G Q⟩
theorem zoR {q:Pr} {A:Around} (hm:q.mg "isinstance" = none):zc4 (q.at A) (eIsj q.K):=⟨zgT (id := "isinstance") hm (by decide +kernel) (fun X f=>by rw [← show X.K=q.K from f.K];exact zqK) (zgO _) (fun _ _ h=>h),fun ws G Q Q' _ k h=>zgO _ ws G Q Q' k h⟩
theorem zm8 {q:Pr} {k:Nat} {M:MC} {nm qual:Str} {st:Stmt} {f:Addr} {fd:FuncData} {ps:List Str} {sp:Nat->Sp3} {body:ISs} {Γ:Fn3->Ctx3} (F:FunD q.K nm qual st .none f fd) (S:FnScope M.N ps (zaa st))
  (hm:q.mg nm=some (.ref f)) (hb:zc5 q.K fd ps []) (h0:∀ ws G Q,¬ sp 0 ws G Q XN) (len:∀ n ws G Q,sp n ws G Q XN->ws.length=ps.length) (mono:∀ n,zhZ ⟨nm,sp n⟩)
  (g:∀ n A,Room k A->zc4 (q.at A) ⟨nm,sp n⟩->Good (Γ ⟨nm,sp n⟩) (q.at A)) (eM:∀ n,MOk (Γ ⟨nm,sp n⟩) M (zaa st)) (look:mSs body M (zae st)=true)
  (hbd:∀ n ws G Q,sp (n+1) ws G Q XN->zaf (Γ ⟨nm,sp n⟩) XN body { nx:=fun _ G'=>Q .non G',rt:=Q } (zap M.N ws) G):∀ n,FnOk q.prog q.w q.K q.mg q.base CX0 (k+n) f fd ps (zdp q.K (sp n))
 | 0=>⟨fun vs H Q E ⟨ws,G,_,_,h⟩=>absurd h (h0 _ _ _),fun A outer s H args us vs Q E _ _ _ _ ⟨ws,G,_,_,h⟩=>absurd h (h0 _ _ _)⟩
 |n+1=>zfG (k:=k+n) F S (fun A hr=>g n A (hr.mono (Nat.le_add_right _ _)) (zhM (zm8 F S hm hb h0 len mono g eM look hbd n) hm F.kp hb (mono n) hr (Nat.le_refl _))) (eM n) look (len (n+1)) (hbd n)
end L3
set_option Elab.async false
set_option linter.all false
set_option maxRecDepth 100000
set_option maxHeartbeats 8000000
namespace L2
open PySem PySem.Spec PyProof.Rows
section
variable {a b : Bool} {z TI TO i1 i2 l1 l2 : Addr}
theorem zp_go {P:Program} {w:World} {A:Around} {E:Value->Shared->Prop} {s:Shared} {tg:Expr} {u:Value} {i:Nat} {Q:Unit->Shared->Prop} (hd:[z,TI,TO,i1,i2].Nodup) (st:ZpSt a b z TI TO i1 i2 l1 l2 i s.heap)
  (h:∀ h',ZpSt a b z TI TO i1 i2 l1 l2 i h'->(∀ c o,c≠z->s.heap.get? c=some o->h'.get? c=some o)->Q () { s with heap:=h' }):wpAny (model P w) A (letOwnedTupleGo tg (.ref z) u) Q E s:=by
 have stay:Q () s:=h s.heap st fun _ _ _ e=>e
 have core:wpAny (model P w) A (do
   let (.ref r,.ref t):=(Value.ref z,u) | return
   let o ← load r
   match o.cls,o.data with
   | .type n,.fields vs =>
    if ["enumerate", "zip", "dict_itemiterator", "dict_reverseitemiterator", "odict_iterator", "itertools.zip_longest", "itertools.pairwise"].contains n&&vs[0]?==some (rawInt t) then
     rule "for.unpacks-the-owned-tuple"
     updateField r 0 .none
   |_,_=>pure ()) Q E s:=by
  cases u with
  |ref t =>
   obtain ⟨f0,f1,hz,h0,h1,hTI,⟨p,q,hTO⟩,s1,s2⟩:=st
   refine wpAny_bind (wpAny_load hz ?_)
   dsimp only
   split
   .refine wpAny_bind (wpAny_rule ?_)
    show wpAny _ _ (setField (.ref z) 0 .none) Q E s
    refine wpAny_setField_rec hz (by simp) fun h' hz' hs'=>h h' ⟨.none,f1,hz',.inl rfl,h1,?_,⟨p,q,?_⟩,s1.at ?_,s2.at ?_⟩ fun c o hc e=>(hs'.2 c hc).trans e
    all_goals simp only [List.nodup_cons,List.mem_cons,List.not_mem_nil,or_false,not_or,List.nodup_nil,not_false_eq_true,and_true] at hd
    .exact (hs'.2 _ (Ne.symm hd.1.1)).trans hTI
    .exact (hs'.2 _ (Ne.symm hd.1.2.1)).trans hTO
    .exact fun o e=>(hs'.2 _ (Ne.symm hd.1.2.2.1)).trans e
    .exact fun o e=>(hs'.2 _ (Ne.symm hd.1.2.2.2)).trans e
   .exact wpAny_pure stay
  |_=>exact wpAny_pure stay
 cases tg with
 |Tuple es x p=>exact core
 |List es x=>exact core
 |_=>exact wpAny_pure stay
theorem znu (P:Program) (w:World) (K:PySem.W.Frag) (tg:Expr) (hd:[z,TI,TO,i1,i2].Nodup) (n1:l1∉[z,TI,TO,i1,i2]) (n2:l2∉[z,TI,TO,i1,i2]):Turn P w K tg (Itz a b K l1 l2) [z,TI,TO,i1,i2] z (ZpSt a b z TI TO i1 i2 l1 l2) where
 mem:=by simp
 obj:=fun i h x=>x.obj
 keep:=fun i h h' x k=>x.keep k
 item:=by
  intro X e1 e2 e3 hc i pins s σ H E I hf st go
  subst e1;subst e2;subst e3
  refine thn (znv (I.ok.hd hc) hd n1 n2 I hf st go) fun r s2 ⟨u,x,H',q1,q2,q3,q4,q5,_,q6⟩=>⟨u,q1,zp_go hd q5 fun h' st' k=>⟨x,H',?_,q3,q4,st',q6⟩⟩
  refine q2.turns (t':=s2.toks) (fp:=[z]) (fun c hcz=>?_) fun c o hcz e=>k c o (fun z=>hcz (by rw [z];simp)) e
  rw [List.mem_singleton] at hcz
  subst hcz
  obtain ⟨_,f2,f3,f4,f5,f6⟩:=hf c (by simp)
  exact ⟨q6 c (by simp),f2,f3,f4,f5,f6⟩
 done:=by
  intro X e1 e2 e3 hc i pins s σ H E I hf st stop
  subst e1;subst e2;subst e3
  exact zny (I.ok.hd hc) hd n1 n2 I hf st stop
 self:=fun A i s Q E st h=>zjy st h
end
end L2
namespace L3
open PySem PySem.Spec PyProof.Rows L2 PySem.SeqAt
def zipI (ws:List W) (G:Hw) (R:List W->(Hw->Prop)->Hw->Prop):Prop:=match ws with
 | [x,y]=>∃ xs ys,za8 G x=some xs/\za8 G y=some ys/\R (List.zipWith (fun a b=>W.tup [a,b]) xs ys) (fun G'=>za8 G' x=some xs/\za8 G' y=some ys) G
 |_=>False
theorem zjz:zhd ⟨"zip", zipI⟩:=by
 intro ws G R R' k h
 replace h:zipI ws G R:=h
 show zipI ws G R'
 unfold zipI at h ⊢
 split at h
 .obtain ⟨xs,ys,e1,e2,h⟩:=h
  exact ⟨xs,ys,e1,e2,k _ _ _ h⟩
 .exact h.elim
def bOf (w:W):Bool:=match w with | .tup _=>true | _=>false
theorem zey {K:Frg} {H1 H:Hp} {G1 G:Hw} {w:W} {a:Addr} {vs:List V} {b:Bool} {xs:List W} (g:Grow K H1 H) (ab:Abs K H G) (r1:Rep K H1 w (.ref a)) (b1:za8 G1 w=some xs) (sq1:SqB b K H1 a vs) (hb:b=bOf w) (st:za8 G w=some xs) (rr1:Reps K H1 xs vs) :
  ∃ vs',SqB b K H a vs'/\Reps K H xs vs':=by
 cases w with
 |tup ws =>
  subst hb
  exact ⟨vs,g.1 _ _ sq1,rr1.mono g⟩
 |ref p =>
  subst hb
  cases (show V.ref a=.ref p from r1)
  obtain ⟨vs',sq,rr⟩:=ab.seq st
  exact ⟨vs',sq,rr⟩
 |_=>cases b1
theorem zfd {K:Frg} {H:Hp} {G:Hw} {w:W} {v:V} {xs:List W} (ab:Abs K H G) (r:Rep K H w v) (e:za8 G w=some xs):∃ a vs,v=.ref a/\SqB (bOf w) K H a vs/\Reps K H xs vs:=by
 cases w with
 |tup ws =>
  obtain ⟨a,vs,rfl,sq,rr⟩:=r
  cases e
  exact ⟨a,vs,rfl,sq,rr⟩
 |ref p =>
  cases (show v=.ref p from r)
  obtain ⟨vs,sq,rr⟩:=ab.seq e
  exact ⟨p,vs,rfl,sq,rr⟩
 |_=>cases e
theorem zqD {K:Frg} {H1:Hp} {G1:Hw} {x y:W} {a1 a2:Addr} {vx vy:List V} {xs ys:List W} (rx:Rep K H1 x (.ref a1)) (ry:Rep K H1 y (.ref a2)) (ex:za8 G1 x=some xs) (ey:za8 G1 y=some ys) (sx:SqB (bOf x) K H1 a1 vx) (sy:SqB (bOf y) K H1 a2 vy)
  (rrx:Reps K H1 xs vx) (rry:Reps K H1 ys vy):ItIs K (Itz (bOf x) (bOf y) K a1 a2) H1 (List.zipWith (fun a b=>W.tup [a,b]) xs ys) (fun G'=>za8 G' x=some xs/\za8 G' y=some ys) where
 go:=fun i H G g ab st hi=>by
  obtain ⟨vx',sx',rx'⟩:=zey g ab rx ex sx rfl st.1 rrx
  obtain ⟨vy',sy',ry'⟩:=zey g ab ry ey sy rfl st.2 rry
  have h1:=rx'.length
  have h2:=ry'.length
  rw [List.length_zipWith] at hi
  exact ⟨vx',vy',vx'[i]'(by omega),vy'[i]'(by omega),sx',sy',List.getElem?_eq_getElem _,List.getElem?_eq_getElem _⟩
 yld:=fun i H G v H' g ab st hi yl=>by
  obtain ⟨vx',sx',rx'⟩:=zey g ab rx ex sx rfl st.1 rrx
  obtain ⟨vy',sy',ry'⟩:=zey g ab ry ey sy rfl st.2 rry
  obtain ⟨p,x',y',rfl,hp,rfl,e2,e3⟩:=yl
  have e2:=e2 vx' sx'
  have e3:=e3 vy' sy'
  obtain ⟨wx,ewx,rpx⟩:=rx'.get' e2
  obtain ⟨wy,ewy,rpy⟩:=ry'.get' e3
  have gr:Grow K H (upd H p (.tup [x',y'])):=zaU hp
  refine ⟨.tup [wx,wy],?_,gr,⟨p,[x',y'],rfl,.of zbt,⟨_,_,rfl,rpx.mono gr,_,_,rfl,rpy.mono gr,rfl⟩⟩,ab.tup hp⟩
  rw [List.getElem?_zipWith,ewx,ewy]
 stop:=fun i H G g ab st hi=>by
  obtain ⟨vx',sx',rx'⟩:=zey g ab rx ex sx rfl st.1 rrx
  obtain ⟨vy',sy',ry'⟩:=zey g ab ry ey sy rfl st.2 rry
  have h1:=rx'.length
  have h2:=ry'.length
  rw [List.length_zipWith] at hi
  refine ⟨vx',vy',sx',sy',?_⟩
  by_cases hl:xs.length<=ys.length
  .left;rw [List.getElem?_eq_none];omega
  .right;rw [List.getElem?_eq_none];omega
theorem zqI {q:Pr} {A:Around} (hm:q.mg "zip" = none):ItE (q.at A) ⟨"zip", zipI⟩:=by
 intro X fits gl tg args t qp pos mt hn pa hnil hdb hnm
 have hm':X.mg "zip" = none:=by rw [fits.mg];exact hm
 intro pins s σ H R I h
 cases args with
 |nil =>
  obtain ⟨σ3,G,hs,ab,h⟩:=h
  exact (hnil rfl _ _ _ h).elim
 |cons a r =>
  obtain ⟨s1,s2⟩:=za7 (env:=X.env) (pos:=pos) hn
  obtain ⟨σ3,G,hs,ab,h⟩:=h
  have h':=zfL (S:=fun vs H1=>∃ x y a1 a2 vx vy,vs=[.ref a1,.ref a2]/\SqB (bOf x) X.K H1 a1 vx/\SqB (bOf y) X.K H1 a2 vy/\R (Itz (bOf x) (bOf y) X.K a1 a2) H1) mt hs ab h fun ws G1 vs H1 g1 hs1 rs a1 h=>by
   dsimp only at h
   unfold zipI at h
   split at h
   .rename_i x y
    obtain ⟨v1,v2,rfl,r1,r2⟩:=zlI rs
    obtain ⟨xs,ys,ex,ey,h⟩:=h
    obtain ⟨p1,vx,rfl,sx,rx⟩:=zfd a1 r1 ex
    obtain ⟨p2,vy,rfl,sy,ry⟩:=zfd a1 r2 ey
    exact ⟨x,y,p1,p2,vx,vy,rfl,sx,sy,h _ H1 g1 a1 (zqD r1 r2 ex ey sx sy rx ry)⟩
   .exact h.elim
  refine Call_ (zd0 I gl hm' (by decide +kernel:bootBuiltins "zip" = some (.type "zip")) (PyProof.Rows.callWith_type1 (thn (pa pos pins s σ H _ I h') fun us s1 ⟨vs,H1,I1,r1,q1⟩=>?_) s1 s2))
  obtain ⟨x,y,a1,a2,vx,vy,e,sx,sy,q⟩:=q1
  subst e
  obtain ⟨u1,u2,rfl,ru1,ru2⟩:=zll r1
  cases (show u1=Value.ref a1 from ru1)
  cases (show u2=Value.ref a2 from ru2)
  obtain ⟨itx,vvx,ssx,hzx⟩:=I1.sqB sx
  obtain ⟨ity,vvy,ssy,hzy⟩:=I1.sqB sy
  have lt1:a1<s1.heap.objs.size:=by
   cases hb:bOf x <;> rw [hb] at ssx <;> (obtain ⟨o,ho,_⟩:=ssx;exact Heap.lt_size ho)
  have lt2:a2<s1.heap.objs.size:=by
   cases hb:bOf y <;> rw [hb] at ssy <;> (obtain ⟨o,ho,_⟩:=ssy;exact Heap.lt_size ho)
  refine zo4 ssx ssy fun h' z1 z2 z3 z4 z5 z6 z7=>?_
  have I2:Inv X pins σ H1 { s1 with heap:=h',toks:=s1.toks }:=I1.kept z7
  have hd:=zjn s1.heap.objs.size
  have n1:=ziJ _ _ lt1
  have n2:=ziJ _ _ lt2
  have hf:∀ b∈[s1.heap.objs.size+4,s1.heap.objs.size+2,s1.heap.objs.size+3,s1.heap.objs.size,s1.heap.objs.size+1],FpOk X pins H1 b:=fun b hb=>I1.fpOk (zkP _ _ hb) (I1.hok.fresh (zkP _ _ hb))
  have st:ZpSt (bOf x) (bOf y) (s1.heap.objs.size+4) (s1.heap.objs.size+2) (s1.heap.objs.size+3) s1.heap.objs.size (s1.heap.objs.size+1) a1 a2 0 h':=⟨.none,.bool false,z1,.inl rfl,.inl rfl,z2,⟨_,_,z3⟩,z4,z5⟩
  refine zjy st ⟨_,_,_,_,H1,rfl,I2,znu X.prog X.w X.K tg hd n1 n2,st,hf,q⟩
abbrev eZpi:It3:=⟨"zip", zipI⟩
theorem zoH {q:Pr} {A:Around} (hm:q.mg "zip" = none):ItE (q.at A) eZpi/\zhd eZpi:=⟨zqI hm,zjz⟩
end L3
set_option Elab.async false
set_option linter.all false
set_option maxRecDepth 100000
set_option maxHeartbeats 8000000
namespace L3
open PySem PySem.Spec PyProof.Rows L2 PySem.SeqAt
def KOk {α:Type} (n:Nat) (R:α->Prop):PySem.W.KasT α->Prop
 | .ret a=>R a
 | .ask i j k=>i<n/\j<n/\∀ b,KOk n R (k b)
theorem KOk.bnd {α β:Type} {n:Nat} {R:α->Prop} {R':β->Prop} {f:α->PySem.W.KasT β} (hf:∀ a,R a->KOk n R' (f a)):∀ {t:PySem.W.KasT α},KOk n R t->KOk n R' (t.bind f)
 | .ret a,h=>hf a h
 | .ask i j k,h=>⟨h.1,h.2.1,fun b=>KOk.bnd hf (h.2.2 b)⟩
def krun {α:Type} (lt:Nat->Nat->Bool):PySem.W.KasT α->α
 | .ret a=>a
 | .ask i j k=>krun lt (k (lt i j))
theorem zhI {α:Type} {n:Nat} {R:α->Prop} (lt:Nat->Nat->Bool):∀ {t:PySem.W.KasT α},KOk n R t->R (krun lt t)
 | .ret a,h=>h
 | .ask i j k,h=>by
  show R (krun lt (k (lt i j)))
  exact zhI lt (h.2.2 (lt i j))
theorem znm {α:Type} {n:Nat} {R:α->Prop} {lt:Nat->Nat->Bool} {cmp:Nat->Nat->(Bool->Shared->Prop)->Shared->Prop} {Q:α->Shared->Prop} {s:Shared} (hc:∀ i j C,i<n->j<n->C (lt i j) s->cmp i j C s) :
  ∀ {t:PySem.W.KasT α},KOk n R t->Q (krun lt t) s->t.kasWp cmp Q s
 | .ret a,_,h=>h
 | .ask i j k,o,h=>hc i j _ o.1 o.2.1 (znm hc (o.2.2 _) h)
def Pm (n:Nat) (p:Array Nat):Prop:=p.Perm (List.toArray (List.range n))
theorem Pm.lt {n:Nat} {p:Array Nat} (h:Pm n p) (hn:0<n) (i:Nat):p.getD i 0<n:=by
 by_cases hi:i<p.size
 .have e:p.getD i 0=p[i]:=by simp [Array.getD,hi]
  rw [e]
  have hm:p[i]∈p.toList:=by simp
  have:=(Array.perm_iff_toList_perm.mp h).mem_iff.mp hm
  simpa using this
 .have e:p.getD i 0=0:=by simp [Array.getD,hi]
  rw [e];exact hn
theorem Pm.rev {n:Nat} {p:Array Nat} (h:Pm n p) (i j:Nat):Pm n (PySem.W.kas_rev p i j):=(mirror_perm p i j _).trans h
section
variable {n : Nat} {p : Array Nat}
theorem zlb (hn:0<n) (h:Pm n p):∀ f m,KOk n (fun _=>True) (PySem.W.kas_asc p f m)
 | 0,m=>True.intro
 |f+1,m=>⟨h.lt hn _,h.lt hn _,fun b=>by
  cases b
  .exact zlb hn h f (m+1)
  .exact True.intro⟩
theorem zfF (hn:0<n):∀ f (p:Array Nat) m q,Pm n p->KOk n (fun r=>Pm n r.1) (PySem.W.kas_desc f p m q)
 | 0,p,m,q,h=>h
 |f+1,p,m,q,h=>⟨h.lt hn _,h.lt hn _,fun b=>by
  cases b
  .refine ⟨h.lt hn _,h.lt hn _,fun d=>?_⟩
   cases d
   .exact zfF hn f p _ _ h
   .exact h
  .simp only [if_true]
   split
   .exact zfF hn f _ _ _ (h.rev _ _)
   .exact zfF hn f p _ _ h⟩
theorem zh5 (hn:0<n) (h:Pm n p) (m r:Nat):KOk n (fun x=>Pm n x.2) (PySem.W.kas_tail3 m r p):=by
 refine KOk.bnd (fun a _=>?_) (zlb hn (h.rev _ _) _ _)
 exact h.rev _ _
theorem zd6 (hn:0<n) (h:Pm n p) (m r:Nat):KOk n (fun x=>Pm n x.2) (PySem.W.kas_descPart m r p):=by
 refine KOk.bnd (fun a ha=>?_) (zfF hn _ _ _ _ h)
 split
 .exact zh5 hn (ha.rev _ _) _ _
 .exact zh5 hn ha _ _
theorem zmU (hn:0<n) (h:Pm n p) (r:Nat):KOk n (fun x=>Pm n x.2) (PySem.W.kas_count r p):=by
 refine KOk.bnd (fun a _=>?_) (zlb hn h _ _)
 split
 .exact h
 .split
  .refine ⟨h.lt hn _,h.lt hn _,fun b=>?_⟩
   cases b
   .exact zd6 hn (h.rev _ _) _ _
   .exact h
  .exact zd6 hn h _ _
theorem zfn (hn:0<n) (h:Pm n p) (k:Nat):∀ f l r,KOk n (fun _=>True) (PySem.W.kas_place p k f l r)
 | 0,l,r=>True.intro
 |f+1,l,r=>by
  show KOk n _ (if l>=r then _ else _)
  split
  .exact True.intro
  .refine ⟨h.lt hn _,h.lt hn _,fun b=>?_⟩
   cases b
   .exact zfn hn h k f _ _
   .exact zfn hn h k f _ _
theorem zk5 (hn:0<n):∀ f (p:Array Nat) k,Pm n p->KOk n (Pm n) (PySem.W.kas_bin f p k)
 | 0,p,k,h=>h
 |f+1,p,k,h=>KOk.bnd (fun l _=>zk5 hn f _ _ ((bubble_perm p k _).trans h)) (zfn hn h k k 0 k)
theorem zhk (hn:0<n):KOk n (Pm n) (PySem.W.kas_sort n):=by
 refine KOk.bnd (fun r hr=>?_) (zmU hn (Array.Perm.refl _) n)
 split
 .exact zk5 hn _ _ _ hr
 .exact hr
end
def srtP (n:Nat) (lt:Nat->Nat->Bool):List Nat:=if n<2 then List.range n else (krun lt (PySem.W.kas_sort n)).toList
theorem zdD (n:Nat) (lt:Nat->Nat->Bool):(srtP n lt).Perm (List.range n):=by
 unfold srtP
 split
 .exact List.Perm.refl _
 .exact Array.perm_iff_toList_perm.mp (zhI lt (zhk (by omega)))
theorem zcr {α:Type} (d:α) (l:List α):(List.range l.length).map (fun i=>l.getD i d)=l:=by
 apply List.ext_getElem
 .simp
 .intro i h1 h2
  simp [h2]
end L3
set_option Elab.async false
set_option linter.all false
set_option maxRecDepth 100000
set_option maxHeartbeats 8000000
namespace L3
open PySem PySem.Spec PyProof.Rows L2 PySem.SeqAt
def LtAt (A:Around) (s:Shared) (y x:Value) (b:Bool):Prop :=
 ∀ (prog:Program) (w:World) (E:Value->Shared->Prop) (Q:Value->Shared->Prop),Q (.bool b) s->wpAny (model prog w) A (richCompare .Lt y x) Q E s
def Lx (A:Around) (s:Shared) (fin:Bool):List (Value×Value)->Bool->Prop
 | [],v=>v=fin
 | (p,q)::r,v=>∃ e:Bool,EqAt A s p q e/\if e=true then Lx A s fin r v else LtAt A s p q v
theorem ziU (l b:Addr) (xs ys:Array Value) (n m:Nat) (d1 d2:Option Addr) (s1 s2:Array (Option Value)) (v:Bool) :
  Meets (Builtin.«tuple.__lt__» ⟨[.ref l,.ref b],[]⟩) (fun A R s=>s.heap.get? l=some { cls:=.type "tuple", dict:=d1,data:=.seq xs n,slots:=s1 }/\s.heap.get? b=some { cls:=.type "tuple", dict:=d2,data:=.seq ys m,slots:=s2 } /\
    Lx A.in1 s (decide (xs.size<ys.size)) (xs.toList.zip ys.toList) v/\R (.ok (.ret (.bool v))) s) :=
 .of_wp fun prog w A R s h=>by
  obtain ⟨hp,g,d,tk,os⟩:=s;obtain ⟨hl,hb,he,h⟩:=h
  have f2:=AutoSeq1.sub_tuple_tuple
  wp_walk using wpAny_loadPart' hl,wpAny_loadPart' hb,wpAny_forIn_list _ (fun rest b s'=>b.1=none/\s'=⟨hp,g,d,tk,os⟩/\Lx A.in1 ⟨hp,g,d,tk,os⟩ (decide (xs.size<ys.size)) rest v) _
  case turn =>
   rintro ⟨y,x⟩ rest b s' ⟨hb',rfl,e,he,hr⟩
   refine wpAny_bind (he prog w _ _ ?_)
   cases e with
   |true =>
    wp_walk
    exact ⟨rfl,rfl,by simpa using hr⟩
   |false =>
    have hr:LtAt A.in1 ⟨hp,g,d,tk,os⟩ y x v:=by simpa using hr
    have hr':∀ (E:Value->Shared->Prop) (Q:Value->Shared->Prop),Q (.bool v) ⟨hp,g,d,tk,os⟩->wpAny (model prog w) A.in1 (richCompare .Lt y x) Q E ⟨hp,g,d,tk,os⟩:=hr prog w
    repeat (first | with_reducible refine hr' _ _ ?_ | wp_step)
    exact ⟨_,rfl,h⟩
  case fin =>
   rintro ⟨b1,b2⟩ s' ⟨hb',rfl,hz⟩
   simp only at hb'
   subst hb'
   have hz:v=decide (xs.size<ys.size):=hz
   subst hz
   wp_walk
   exact ⟨_,rfl,by simpa [Builtin.Tuple.tupleCompareSizes] using h⟩
  case h=>exact ⟨rfl,rfl,he⟩
mutual
def ltW:W->W->Option Bool
 | .str x,.str y=>some (decide (x.cps.toList<y.cps.toList))
 | .tup xs,.tup ys=>ltWs xs ys
 |_,_=>none
def ltWs:List W->List W->Option Bool
 | [],[]=>some false
 | [],_::_=>some true
 |_::_,[]=>some false
 |x::xs,y::ys=>if eqW x y=true then ltWs xs ys else ltW x y
end
section
variable {X : Cx} {pins : List (Addr × Obj)} {σ : L2.St} {H : Hp} {s : Shared}
def LtOk (X:Cx) (H:Hp) (s:Shared) (x:W):Prop:=∀ (y:W) (v v':V) (u u':Value) (A:Around) (b:Bool),Rep X.K H x v->RelV v u->Rep X.K H y v'->RelV v' u'->pur x=true->pur y=true->A.units+min (dep x) (dep y)<cLine->ltW x y=some b->LtAt A s u u' b
theorem zme (I:Inv X pins σ H s):∀ (xs ys:List W) (vs vs':List V) (us us':List Value) (A:Around) (b:Bool),(∀ x∈xs,LtOk X H s x)->Reps X.K H xs vs->Vals vs us->Reps X.K H ys vs'->Vals vs' us'->purs xs=true->purs ys=true ->
  A.units+min (deps xs) (deps ys)<cLine->ltWs xs ys=some b->Lx A s (decide (us.length<us'.length)) (us.zip us') b
 | [],[],vs,vs',us,us',A,b,_,h,r,h',r',_,_,_,e=>by
  rw [show _=[] from h] at r;cases r
  rw [show _=[] from h'] at r';cases r'
  cases e;rfl
 | [],y::ys,vs,vs',us,us',A,b,_,h,r,h',r',_,_,_,e=>by
  rw [show _=[] from h] at r;cases r
  have l1:=h'.length
  have l2:=r'.length
  cases e
  show true=decide (0<us'.length)
  rw [← l2,l1];rfl
 |x::xs,[],vs,vs',us,us',A,b,_,h,r,h',r',_,_,_,e=>by
  rw [show _=[] from h'] at r';cases r'
  cases e
  rw [List.zip_nil_right]
  show false=decide (us.length<0)
  rfl
 |x::xs,y::ys,vs,vs',us,us',A,b,ok,h,r,h',r',px,py,hu,e=>by
  obtain ⟨v,t,e1,h,hs⟩:=h
  obtain ⟨v',t',e2,h',hs'⟩:=h'
  subst e1;subst e2
  cases r with
  |cons r rs =>
   cases r' with
   |cons r' rs' =>
    have px:=zax.mp px
    have py:=zax.mp py
    simp only [deps] at hu
    rw [List.zip_cons_cons]
    refine ⟨eqW x y,zkU I x y _ _ _ _ A h r h' r' px.1 py.1 (by omega),?_⟩
    simp only [ltWs] at e
    cases q:eqW x y with
    |true =>
     rw [q,if_pos rfl] at e
     rw [if_pos rfl]
     have:=zme I xs ys _ _ _ _ A b (fun z hz=>ok z (List.mem_cons_of_mem _ hz)) hs rs hs' rs' px.2 py.2 (by omega) e
     simpa using this
    |false =>
     rw [q,if_neg zzN] at e
     rw [if_neg zzN]
     exact ok x List.mem_cons_self y _ _ _ _ A b h r h' r' px.1 py.1 (by omega) e
theorem zni (I:Inv X pins σ H s):∀ x:W,LtOk X H s x:=by
 intro x
 induction x using W.ind with
 |tup xs ih =>
  intro y v v' u u' A b h r h' r' hx hy hu e
  obtain ⟨a,vs,its,rfl,rfl,q,rs,vr,it,_⟩:=zaN I h r
  cases y with
  |tup ys =>
   obtain ⟨c,us,its',rfl,rfl,q',rs',vr',it',_⟩:=zaN I h' r'
   obtain ⟨⟨cls,dd,data,sl⟩,ho,hc,n,hd⟩:=it
   obtain ⟨⟨cls2,dd2,data2,sl2⟩,ho2,hc2,n2,hd2⟩:=it'
   simp only at hc hd hc2 hd2
   subst hc hd hc2 hd2
   simp only [dep] at hu
   intro prog w E Q hq
   refine richCompare_meets_room (op:=.Lt) ⟨_,ho,rfl⟩ ⟨_,ho2,rfl⟩ F.slot_tuple_lt F.entry_tuple_lt (F.args_tuple_lt_2 _ _) (ziU a c its.toArray its'.toArray n n2 dd dd2 sl sl2 b) ⟨ho,ho2,?_,show Value.bool b≠Value.notImplemented/\Q (.bool b) s from ⟨(fun x=>nomatch x),hq⟩⟩ (by omega)
   have:=zme I xs ys _ _ _ _ A.in1 b ih rs vr rs' vr' hx hy (by show A.units+1+_<_;omega) e
   simpa using this
  |_=>cases e
 |str x =>
  intro y v v' u u' A b h r h' r' hx hy hu e
  cases (show v=.str x from h)
  obtain ⟨t,rfl⟩:=r
  cases y with
  |str z =>
   cases (show v'=.str z from h')
   obtain ⟨t',rfl⟩:=r'
   cases e
   exact fun prog w E Q hq=>PyProof.Rows.lt_str hq
  |_=>cases e
 |_=>intro y v v' u u' A b _ _ _ _ _ _ _ e;cases e
end
end L3
set_option Elab.async false
set_option linter.all false
set_option maxRecDepth 100000
set_option maxHeartbeats 8000000
namespace L3
open PySem PySem.Spec PyProof.Rows L2 PySem.SeqAt
section
variable {prog : Program} {w : World} {A : Around} {E : Value → Shared → Prop} {s : Shared} {D : Addr} {vs : List Value} {κ : SortKind} {lt : Nat → Nat → Bool}
def But (D:Addr) (h h':Heap):Prop:=∀ b o,b≠D->h.get? b=some o->h'.get? b=some o
def zeh (vs:List Value) (lt:Nat->Nat->Bool):List Value:=(srtP vs.length lt).map fun i=>vs.getD i Value.none
theorem zkf (vs:List Value) (lt:Nat->Nat->Bool):(zeh vs lt).length=vs.length:=by
 unfold zeh
 rw [List.length_map,(zdD _ _).length_eq,List.length_range]
structure Asks (prog:Program) (w:World) (A:Around) (s:Shared) (D:Addr) (vs:List Value) (κ:SortKind) (lt:Nat->Nat->Bool):Prop where
 kind:∀ (h':Heap) (C:SortKind->Shared->Prop),2<=vs.length->But D s.heap h'->C κ { s with heap:=h' }->wpAny (model prog w) A (keyKind' vs.toArray) C (fun _ _=>False) { s with heap:=h' }
 ask:∀ (h':Heap) (i j:Nat) (C:Bool->Shared->Prop),But D s.heap h'->i<vs.length->j<vs.length->C (lt i j) { s with heap:=h' }->PySem.W.kas_ask prog w A κ vs i j C { s with heap:=h' }
theorem zmg {n:Nat} {P:PySem.Fin->Shared->Prop} (ho:s.heap.get? D=some (seqObj "list" vs.toArray n)) (h64:vs.length<64) (q:Asks prog w A s D vs κ lt)
  (h:∀ h' m,But D s.heap h'->h'.get? D=some (seqObj "list" (zeh vs lt).toArray m)->P (.done (.ret .none)) { s with heap:=h' }):wpAny (model prog w) A (Builtin.«list.sort» ⟨[.ref D],[]⟩) P E s:=by
 have hD:D<s.heap.objs.size:=Heap.lt_size ho
 have big:(64:Nat)<=sizeLine:=by rw [sizeLine_eq];decide
 have sz:vs.toArray.size=vs.length:=List.size_toArray
 obtain ⟨e1,ho1⟩:∃ e1,(s.heap.update D (Obj.mapSeq fun _=>(#[]:Array Value))).get? D=some (seqObj "list" #[] e1):=⟨_,get?_update_seq ho fun _=>#[]⟩
 rw [list_sort_plain]
 refine wpAny_bind (listItems_at ho rfl (wpAny_bind (listUpdate_at ho rfl (wpAny_bind (seqEpoch_at ho1 rfl ?_)) (by rw [sz];omega) (Nat.zero_le _))))
 refine wpAny_bind (wpAny_newTuple (wpAny_bind (wpAny_newList (wpAny_holding ?_) (Nat.zero_le _))) (by show vs.length<=_;omega))
 generalize hh:((s.heap.update D (Obj.mapSeq fun _=>(#[]:Array Value))).push { cls:=.type "tuple", data:=.seq vs.toArray.toList.toArray }).push { cls:=.type "list", data:=.seq ([]:List Value).toArray }=h6
 have k6:But D s.heap h6:=fun b o hb e=>by
  rw [← hh]
  exact Heap.get?_push_of_some _ (Heap.get?_push_of_some _ ((Heap.get?_update_other _ _ (Ne.symm hb)).trans e))
 have hD6:h6.get? D=some (seqObj "list" #[] e1):=by rw [← hh];exact Heap.get?_push_of_some _ (Heap.get?_push_of_some _ ho1)
 have fin:∀ (st:SortSt),failedOf st=none->(arrOf st).map (·.2)=(zeh vs lt).toArray->wpAny (model prog w) A (do
   let touched:=(← seqEpoch D) != e1
   Builtin.List.listUpdate (.ref D) fun _=>(arrOf st).map (·.2)
   if let some e:=failedOf st then rule "list.sort.comparison-raised"; throw e
   if touched then rule "list.sort.modified"; raiseError "ValueError" "list modified during sort"
   ret .none) P E { s with heap:=h6 }:=fun st hf hout=>by
  refine wpAny_bind (seqEpoch_at hD6 rfl (wpAny_bind (listUpdate_at hD6 rfl ?_ (Nat.zero_le _) (by rw [hout,List.size_toArray,zkf];omega))))
  rw [hf,hout]
  simp only [bne_self_eq_false,zzB,if_false]
  refine wpAny_pure (h _ _ (fun b o hb e=>(Heap.get?_update_other _ _ (Ne.symm hb)).trans (k6 b o hb e)) (get?_update_seq hD6 _))
 dsimp only
 by_cases h2:vs.toArray.size<2
 .rw [if_pos h2,if_pos h2]
  refine wpAny_bind (wpAny_pure ?_)
  rw [StateT.run_pure]
  refine wpAny_bind (wpAny_pure (fin _ rfl ?_))
  have hlt:vs.length<2:=by omega
  unfold zeh srtP
  rw [if_pos hlt,zcr]
  show ((vs.toArray.zip vs.toArray).map (·.2))=vs.toArray
  apply Array.toList_inj.mp
  simp only [Array.toList_map,Array.toList_zip]
  exact List.map_snd_zip (Nat.le_refl _)
 .rw [if_neg h2,if_neg h2]
  have h2':2<=vs.length:=by omega
  refine wpAny_bind (wpAny_mono (q.kind h6 _ h2' k6 ?_) (fun _ _ z=>z) fun _ _ z=>z.elim)
  refine wpAny_bind (wpAny_mono (PySem.W.kat_run (Q:=fun st' s'=>s'={ s with heap:=h6 }/\failedOf st'=none/\(arrOf st').map (·.2)=(zeh vs lt).toArray)
   (G:=fun p s'=>s'={ s with heap:=h6 }/\p=krun lt (PySem.W.kas_sort vs.length)) rfl h2' h64 (fun p st' s' _ har hf hg=>⟨hg.1,hf,?_⟩) ?_) (fun r s' z=>?_) fun _ _ z=>z)
  .rw [PySem.W.kat_snds rfl har,hg.2]
   unfold zeh srtP
   rw [if_neg (by omega)]
  .exact znm (lt:=lt) (fun i j C hi hj hc=>q.ask h6 i j C k6 hi hj hc) (zhk (by omega)) ⟨rfl,rfl⟩
  .obtain ⟨⟨⟩,st'⟩:=r
   obtain ⟨rfl,hf,hout⟩:=z
   exact fin st' hf hout
def zjv (h h':Heap):Prop:=∀ b o,h.get? b=some o->h'.get? b=some o
theorem zjR {l:Addr} {o:Obj} {T:String} {n:Nat} {Q:Value->Shared->Prop} (hT:T = "list" \/ T = "tuple") (ho:s.heap.get? l=some o) (hc:o.cls=.type T) (hd:o.data=.seq vs.toArray n) (h64:vs.length<64)
  (kind:∀ (h':Heap) (C:SortKind->Shared->Prop),2<=vs.length->zjv s.heap h'->C κ { s with heap:=h' }->wpAny (model prog w) A.in1.in1 (keyKind' vs.toArray) C (fun _ _=>False) { s with heap:=h' })
  (ask:∀ (h':Heap) (i j:Nat) (C:Bool->Shared->Prop),zjv s.heap h'->i<vs.length->j<vs.length->C (lt i j) { s with heap:=h' }->PySem.W.kas_ask prog w A.in1.in1 κ vs i j C { s with heap:=h' })
  (h:∀ (h1 h':Heap) (m:Nat),zjv s.heap h1->zjv h1 h'->h'.get? h1.objs.size=some (seqObj "list" (zeh vs lt).toArray m)->Q (.ref h1.objs.size) { s with heap:=h' }) :
  wpAny (model prog w) A (call (.builtin "sorted") [.ref l]) Q E s:=by
 have big:(64:Nat)<=sizeLine:=by rw [sizeLine_eq];decide
 refine Calls.call_function_entry kind_sorted plain_sorted entry_sorted (args_sorted1 _) ?_
 unfold Builtin.«sorted»
 refine wpAny_bind (m:=checkCount "sorted" 1 1 _) (wpAny_pure (wpAny_bind (wpAny_collect_seq l hT ho hc hd (fun h1 k1=>?_) (by rw [List.size_toArray];omega))))
 refine wpAny_bind (wpAny_newList ?_ (by show vs.length<=_;omega))
 have hL:(h1.push (seqObj "list" vs.toArray 0)).get? h1.objs.size=some (seqObj "list" vs.toArray 0):=Heap.get?_push_size _ rfl
 have up:∀ h',But h1.objs.size (h1.push (seqObj "list" vs.toArray 0)) h'->zjv h1 h':=fun h' k b o e=>k b o (Nat.ne_of_lt (Heap.lt_size e)) (Heap.get?_push_of_some _ e)
 show wpAny _ _ _ _ _ { s with heap:=h1.push (seqObj "list" vs.toArray 0) }
 refine wpAny_bind (wpAny_holding (wpAny_call_entry slot_list_sort ⟨_,hL,rfl⟩ entry_list_sort (zmg (κ:=κ) (lt:=lt) hL h64 ⟨fun h' C h2 k c=>?_,fun h' i j C k hi hj c=>?_⟩ fun h' m k hm=>⟨_,rfl,?_⟩) (args_list_sort _)))
 .exact kind h' C h2 (fun b o e=>up h' k b o (k1 b o e)) c
 .exact ask h' i j C (fun b o e=>up h' k b o (k1 b o e)) hi hj c
 .exact wpAny_pure ⟨_,rfl,h h1 h' m k1 (up h' k) hm⟩
end
def ltB (x y:W):Bool:=(ltW x y).getD false
def srt (ws:List W):List W:=(srtP ws.length fun i j=>ltB (ws.getD i .non) (ws.getD j .non)).map fun i=>ws.getD i .non
theorem zaM (ws:List W):(srt ws).Perm ws:=by
 have:=(zdD ws.length fun i j=>ltB (ws.getD i .non) (ws.getD j .non)).map fun i=>ws.getD i .non
 rwa [zcr] at this
def hdT:W->Option String
 | .tup (.str _::_)=>some "str"
 | .tup (.tup _::_)=>some "tuple"
 |_=>none
structure Srtb (ws:List W):Prop where
 pure:purs ws=true
 lt:∀ x∈ws,∀ y∈ws,(ltW x y).isSome=true
 few:ws.length<64
 deep:deps ws<60
 hd:∃ T,∀ x∈ws,hdT x=some T
def zfZ:RS:=fun ws G Q=>match ws with
 | [x]=>∃ xs,za8 G x=some xs/\Srtb xs/\∀ r,G r=none->Q (.ref r) (put G r (.lst (srt xs)))
 |_=>False
theorem zeu:zcM zfZ:=by
 intro ws G Q Q' k h
 unfold zfZ at h ⊢
 split at h
 .obtain ⟨xs,e1,e2,h⟩:=h
  exact ⟨xs,e1,e2,fun p hp=>k _ _ (h p hp)⟩
 .exact h.elim
end L3
set_option Elab.async false
set_option linter.all false
set_option maxRecDepth 100000
set_option maxHeartbeats 8000000
namespace L3
open PySem PySem.Spec PyProof.Rows L2 PySem.SeqAt
section
variable {prog : Program} {w : World} {A : Around} {s : Shared} {b fin v : Bool} {C : Bool → Shared → Prop}
theorem zkA:∀ (l:List (Value×Value)) (i:Nat),(b&&i==0)=false->Lx A s fin l v->C v s->PySem.W.KatLex prog w A b fin C l i s
 | [],i,_,h,c=>by cases (show v=fin from h);exact c
 | (p,q)::r,i,hb,⟨e,he,hr⟩,c=>by
  refine PySem.W.kat_cons (he prog w _ _ ?_)
  cases e with
  |true =>
   rw [if_pos rfl] at hr
   refine PySem.W.kat_yes (zkA r (i+1) ?_ hr c)
   cases b <;> simp
  |false =>
   rw [if_neg zzN] at hr
   refine PySem.W.kat_no ?_
   rw [hb]
   exact PySem.W.kat_one p q (hr prog w _ _ c)
end
section
variable {X : Cx} {pins : List (Addr × Obj)} {σ : L2.St} {H : Hp} {s : Shared}
theorem zqu {prog:Program} {w:World} (I:Inv X pins σ H s) {T:String} {x y:W} {vx vy:V} {ux uy:Value} {A:Around} {v:Bool} {C:Bool->Shared->Prop} (hx:hdT x=some T) (hy:hdT y=some T) (rx:Rep X.K H x vx) (ru:RelV vx ux) (ry:Rep X.K H y vy) (ru':RelV vy uy)
  (px:pur x=true) (py:pur y=true) (hu:A.units+min (dep x) (dep y)<cLine) (e:ltW x y=some v) (c:C v s):wpAny (model prog w) A (keyLt' (tuples' (Value.type T != Value.type "tuple")) ux uy) C (fun _ _=>False) s:=by
 have tu:∀ z,hdT z=some T->∃ zs,z=.tup zs:=fun z hz=>by
  unfold hdT at hz
  split at hz
  .exact ⟨_,rfl⟩
  .exact ⟨_,rfl⟩
  .cases hz
 obtain ⟨xs,rfl⟩:=tu x hx
 obtain ⟨ys,rfl⟩:=tu y hy
 obtain ⟨a,vs,its,rfl,rfl,q,rs,vr,it,_⟩:=zaN I rx ru
 obtain ⟨c',vs',its',rfl,rfl,q',rs',vr',it',_⟩:=zaN I ry ru'
 obtain ⟨o,ho,hc,n,hd⟩:=it
 obtain ⟨o2,ho2,hc2,n2,hd2⟩:=it'
 simp only [dep] at hu
 refine PySem.W.kat_lt ho hd ho2 hd2 ?_
 simp only [List.size_toArray]
 have main:=zme I xs ys _ _ _ _ A v (fun z _=>zni I z) rs vr rs' vr' px py (by omega) e
 cases hb:(Value.type T != Value.type "tuple") with
 |false=>exact zkA _ 0 rfl main c
 |true =>
  have hT:T = "str" := by
   unfold hdT at hx
   split at hx
   .cases hx;rfl
   .cases hx;cases hb
   .cases hx
  subst hT
  cases xs with
  |nil=>cases hx
  |cons x0 xs =>
   cases ys with
   |nil=>cases hy
   |cons y0 ys =>
    cases x0 with
    |str t =>
     cases y0 with
     |str z =>
      obtain ⟨v1,r1,rfl,h1,rs⟩:=rs
      obtain ⟨v2,r2,rfl,h2,rs'⟩:=rs'
      cases (show v1=.str t from h1)
      cases (show v2=.str z from h2)
      cases vr with
      |cons k1 vr =>
       cases vr' with
       |cons k2 vr' =>
        obtain ⟨t1,rfl⟩:=k1
        obtain ⟨t2,rfl⟩:=k2
        replace e:(if (t==z)=true then ltWs xs ys else some (decide (t.cps.toList<z.cps.toList)))=some v:=e
        simp only [pur,purs,Bool.true_and] at px py
        simp only [deps,dep,Nat.zero_max] at hu
        rw [List.zip_cons_cons]
        refine PySem.W.kat_cons (EqAt.str_str t t1 z t2 prog w _ _ ?_)
        cases q:(t==z) with
        |true =>
         rw [q,if_pos rfl] at e
         refine PySem.W.kat_yes (zkA _ 1 rfl ?_ c)
         have:=zme I xs ys _ _ _ _ A v (fun z _=>zni I z) rs vr rs' vr' px py (by omega) e
         simpa using this
        |false =>
         rw [q,if_neg zzN] at e
         cases e
         refine PySem.W.kat_no ?_
         exact oneLt_str c
     |_=>exact absurd hy (by simp [hdT])
    |_=>exact absurd hx (by simp [hdT])
theorem ziG (I:Inv X pins σ H s) {M:Model} {T:String}:∀ {ws:List W} {vs:List V} {us:List Value},(∀ x∈ws,hdT x=some T)->Reps X.K H ws vs->Vals vs us->∃ fs,PySem.W.KatTups s.heap us fs/\(∀ v∈fs,PySem.W.Looks M s.heap (typeOf v) (.type T))/\fs.length=us.length
 | [],vs,us,_,r,k=>by
  cases (show vs=[] from r);cases k
  exact ⟨[],True.intro,(fun _ h=>nomatch h),rfl⟩
 |x::ws,vs,us,hT,r,k=>by
  obtain ⟨v,t,rfl,rx,rt⟩:=r
  cases k with
  |cons k ks =>
   obtain ⟨fs,h1,h2,h3⟩:=ziG I (fun y hy=>hT y (List.mem_cons_of_mem _ hy)) rt ks
   have hx:=hT x List.mem_cons_self
   unfold hdT at hx
   split at hx
   .rename_i z zs
    cases hx
    obtain ⟨a,vs',its,rfl,rfl,q,rs,vr,it,_⟩:=zaN I rx k
    obtain ⟨v1,r1,rfl,g1,_⟩:=rs
    cases (show v1=.str z from g1)
    cases vr with
    |cons k1 vr =>
     obtain ⟨t1,rfl⟩:=k1
     obtain ⟨o,ho,hc,n,hd⟩:=it
     refine ⟨.str z t1::fs,.cons ho hc hd rfl h1,fun v hv=>?_,by rw [List.length_cons,List.length_cons,h3]⟩
     rcases List.mem_cons.mp hv with rfl | hv
     .exact PySem.W.Looks.of_pure rfl
     .exact h2 v hv
   .rename_i z zs
    cases hx
    obtain ⟨a,vs',its,rfl,rfl,q,rs,vr,it,_⟩:=zaN I rx k
    obtain ⟨v1,r1,rfl,g1,_⟩:=rs
    cases vr with
    |cons k1 vr =>
     obtain ⟨a2,vs2,its2,rfl,rfl,q2,rs2,vr2,it2,_⟩:=zaN I g1 k1
     obtain ⟨o,ho,hc,n,hd⟩:=it
     obtain ⟨o2,ho2,hc2,_⟩:=it2
     refine ⟨.ref a2::fs,.cons ho hc hd rfl h1,fun v hv=>?_,by rw [List.length_cons,List.length_cons,h3]⟩
     rcases List.mem_cons.mp hv with rfl | hv
     .exact PySem.W.kitAt_ty M _ ⟨o2,ho2,hc2⟩
     .exact h2 v hv
   .cases hx
theorem zjQ (hu:X.A.units+200<cLine):zbV X (.builtin "sorted") (lowR X.K zfZ):=by
 intro pins s σ H xs us Q I r h
 obtain ⟨ws,G,rs,ab,h⟩:=h
 unfold zfZ at h
 split at h
 .rename_i x
  obtain ⟨v,rfl,rv⟩:=zdo rs
  obtain ⟨xs,ex,sb,h⟩:=h
  obtain ⟨a,vs,rfl,sq,rr⟩:=zfd ab rv ex
  obtain ⟨u,rfl,ru⟩:=zc6 r
  cases (show u=Value.ref a from ru)
  obtain ⟨its,vv,ss,hz⟩:=I.sqB sq
  obtain ⟨T',o,n,hT,ho,hc,hd⟩:∃ (T':String) (o:Obj) (n:Nat),(T' = "list" \/ T' = "tuple")/\s.heap.get? a=some o/\o.cls=.type T'/\o.data=.seq its.toArray n:=by
   cases hb:bOf x <;> rw [hb] at ss
   .obtain ⟨o,ho,hc,n,hd⟩:=ss;exact ⟨"list", o,n,.inl rfl,ho,hc,hd⟩
   .obtain ⟨o,ho,hc,n,hd⟩:=ss;exact ⟨"tuple", o,n,.inr rfl,ho,hc,hd⟩
  have l1:its.length=xs.length:=by rw [← vv.length,rr.length]
  have l2:vs.length=xs.length:=rr.length
  obtain ⟨T,hT'⟩:=sb.hd
  have I':∀ h',zjv s.heap h'->Inv X pins σ H { s with heap:=h',toks:=s.toks }:=fun h' k=>I.kept k
  refine zjR (κ:=tuples' (Value.type T != Value.type "tuple")) (lt:=fun i j=>ltB (xs.getD i .non) (xs.getD j .non)) hT ho hc hd (by rw [l1];exact sb.few) (fun h' C h2 k c=>?_) (fun h' i j C k hi hj c=>?_) fun h1 h' m k1 k' hm=>?_
  .obtain ⟨fs,g1,g2,g3⟩:=ziG (M:=model X.prog X.w) (I' h' k) hT' rr vv
   exact PySem.W.kat_kind g1 (by omega) g2 (by simp) c
  .have hi':i<xs.length:=by omega
   have hj':j<xs.length:=by omega
   obtain ⟨vi,evi,ri⟩:=rr.get (List.getElem?_eq_getElem hi')
   obtain ⟨vj,evj,rj⟩:=rr.get (List.getElem?_eq_getElem hj')
   obtain ⟨ui,eui,si⟩:=vv.get evi
   obtain ⟨uj,euj,sj⟩:=vv.get evj
   have mi:=List.getElem_mem hi'
   have mj:=List.getElem_mem hj'
   obtain ⟨b,eb⟩:=Option.isSome_iff_exists.mp (sb.lt _ mi _ mj)
   have e1:its.getD i Value.none=ui:=by simp [List.getD,eui]
   have e2:its.getD j Value.none=uj:=by simp [List.getD,euj]
   have e3:ltB (xs.getD i .non) (xs.getD j .non)=b:=by simp [List.getD,List.getElem?_eq_getElem hi',List.getElem?_eq_getElem hj',ltB,eb]
   unfold PySem.W.kas_ask
   rw [e1,e2]
   rw [e3] at c
   have d1:=zc2 mi
   have:=sb.deep
   refine zqu (I' h' k) (hT' _ mi) (hT' _ mj) ri si rj sj (purs_mem sb.pure _ mi) (purs_mem sb.pure _ mj) ?_ eb c
   show X.A.units+1+1+_<_
   omega
  .have I1:Inv X pins σ H { s with heap:=h1,toks:=s.toks }:=I' h1 k1
   have I2:Inv X pins σ H { s with heap:=h',toks:=s.toks }:=I' h' fun b o e=>k' b o (k1 b o e)
   have hn:H h1.objs.size=none:=I1.hok.fresh (Nat.le_refl _)
   have pm:=zdD xs.length fun i j=>ltB (xs.getD i .non) (xs.getD j .non)
   have lt:∀ i∈srtP xs.length (fun i j=>ltB (xs.getD i .non) (xs.getD j .non)),i<xs.length:=fun i hi=>List.mem_range.mp (pm.mem_iff.mp hi)
   have eo:zeh its (fun i j=>ltB (xs.getD i .non) (xs.getD j .non))=(srtP xs.length fun i j=>ltB (xs.getD i .non) (xs.getD j .non)).map fun i=>its.getD i Value.none:=by unfold zeh;rw [l1]
   rw [eo] at hm
   have both:∀ l:List Nat,(∀ i∈l,i<xs.length)->Reps X.K H (l.map fun i=>xs.getD i .non) (l.map fun i=>vs.getD i .non)/\Vals (l.map fun i=>vs.getD i .non) (l.map fun i=>its.getD i Value.none):=by
    intro l
    induction l with
    |nil=>exact fun _=>⟨rfl,.nil⟩
    |cons i l ih =>
     intro hl
     obtain ⟨g1,g2⟩:=ih fun j hj=>hl j (List.mem_cons_of_mem _ hj)
     have hi:=hl i List.mem_cons_self
     obtain ⟨vi,evi,ri⟩:=rr.get (List.getElem?_eq_getElem hi)
     obtain ⟨ui,eui,si⟩:=vv.get evi
     have e0:xs.getD i .non=xs[i]:=by simp [List.getD,List.getElem?_eq_getElem hi]
     have e1:vs.getD i .non=vi:=by simp [List.getD,evi]
     have e2:its.getD i Value.none=ui:=by simp [List.getD,eui]
     rw [List.map_cons,List.map_cons,List.map_cons,e0,e1,e2]
     exact ⟨⟨vi,_,rfl,ri,g1⟩,.cons si g2⟩
   obtain ⟨g1,g2⟩:=both _ lt
   refine ⟨.ref h1.objs.size,_,I2.adopt (o:=.lst _) (I1.off (Nat.le_refl _)) hn ⟨?_,_,m,g2,hm⟩,rfl,zb6 ab g1 h _ hn⟩
   rw [List.length_map,pm.length_eq,List.length_range,← l2]
   exact hz
 .exact h.elim
end
abbrev eSrt:Fn3:=⟨"sorted", fun ws G Q _=>zfZ ws G Q⟩
theorem zoJ {q:Pr} {A:Around} (hu:A.units+200<cLine) (hm:q.mg "sorted" = none):zc4 (q.at A) eSrt:=⟨zgT (id := "sorted") hm (by decide +kernel) (fun X f=>zjQ (by rw [f.A];exact hu)) zeu (fun _ _ h=>h),fun ws G Q Q' _ k h=>zeu ws G Q Q' k h⟩
end L3
set_option Elab.async false
set_option linter.all false
set_option maxRecDepth 100000
set_option maxHeartbeats 8000000
namespace L3
open PySem PySem.Spec PyProof.Rows L2 PySem.SeqAt
theorem zj2 (l:Addr) (its:Array Value) (n:Nat) (xv:Value) (e:Value->Bool) (j:Nat) (hj:j<its.size) (hit:e its[j]=true) (hz:its.size<=sizeLine) :
  ∀ k i:Nat,j - i=k->i<=j->(∀ m (hm:m<its.size),i<=m->m<j->e its[m]=false)->Meets (Builtin.«list.remove.loop» ⟨[.ref l,xv,rawInt i],[]⟩)
   (fun A R s=>s.heap.get? l=some (seqObj "list" its n)/\(∀ y,y∈its->EqAt A.in1 s y xv (e y))/\R (.ok (.ret .none)) { s with heap:=s.heap.update l (Obj.mapSeq fun xs=>xs.eraseIdxIfInBounds j) })
 | 0,i,hk,hij,hno,pg,w,A,R,s,h=>by
  obtain ⟨hp,g,d,tk,so⟩:=s
  obtain ⟨hl,he,h⟩:=h
  obtain rfl:i=j:=by omega
  wp_walk using (wpAny_loadPart' hl)
  rw [show its[((i:Nat):Int).toNat]?=some its[i] by simp [hj]]
  refine wpAny_bind (he _ (Array.getElem_mem hj) pg w _ _ ?_)
  rw [hit]
  have hz':(its.eraseIdxIfInBounds i).size<=sizeLine+1:=Nat.le_trans (PySem.MeetsSeq.size_erased its _) (Nat.le_succ_of_le hz)
  wp_walk using (wpAny_updateSeq hl rfl (hz:=hz) (_hz':=hz')),wpAny_loadPart' hl
  simpa using h
 |k+1,i,hk,hij,hno,pg,w,A,R,s,h=>by
  obtain ⟨hp,g,d,tk,so⟩:=s
  obtain ⟨hl,he,h⟩:=h
  have hi:i<its.size:=by omega
  wp_walk using (wpAny_loadPart' hl)
  rw [show its[((i:Nat):Int).toNat]?=some its[i] by simp [hi]]
  refine wpAny_bind (he _ (Array.getElem_mem hi) pg w _ _ ?_)
  rw [hno i hi (Nat.le_refl _) (by omega)]
  wp_walk
  rw [show ((i:Int)+1)=((i+1:Nat):Int) from rfl]
  refine ⟨plainId_quiet MeetsSeq.plain_remove_loop _,codeAny_builtin MeetsSeq.entry_remove_loop ?_⟩
  rw [Around.under_plainId MeetsSeq.plain_remove_loop _]
  exact zj2 l its n xv e j hj hit hz k (i+1) (by omega) (by omega) (fun m hm h1 h2=>hno m hm (by omega) h2) pg w A R _ ⟨hl,he,h⟩
theorem rm_at (l:Addr) (its:Array Value) (n:Nat) (xv:Value) (e:Value->Bool) (j:Nat) (hj:j<its.size) (hit:e its[j]=true) (hno:∀ m (hm:m<its.size),m<j->e its[m]=false) (hz:its.size<=sizeLine) :
  Meets (Builtin.«list.remove» ⟨[.ref l,xv],[]⟩)
   (fun A R s=>s.heap.get? l=some (seqObj "list" its n)/\(∀ y,y∈its->EqAt A.in1 s y xv (e y))/\R (.ok (.ret .none)) { s with heap:=s.heap.update l (Obj.mapSeq fun xs=>xs.eraseIdxIfInBounds j) }):=by
 intro pg w A R s h
 obtain ⟨hp,g,d,tk,so⟩:=s
 obtain ⟨hl,he,h⟩:=h
 wp_walk using (wpAny_loadPart' hl)
 refine ⟨plainId_quiet MeetsSeq.plain_remove_loop _,codeAny_builtin MeetsSeq.entry_remove_loop ?_⟩
 rw [Around.under_plainId MeetsSeq.plain_remove_loop _]
 exact zj2 l its n xv e j hj hit hz _ 0 rfl (Nat.zero_le _) (fun m hm _ h2=>hno m hm h2) pg w A R _ ⟨hl,he,h⟩
def remS:MS:=fun x ws G Q=>match x,ws with
 | .ref p,[y]=>(match G p with
  |some (.lst xs)=>(pur y=true/\purs xs=true/\min (deps xs) (dep y)<=150)/\(xs.any fun w=>eqW w y)=true/\Q .non (put G p (.lst (xs.eraseIdx (xs.findIdx fun w=>eqW w y))))
  |_=>False)
 |_,_=>False
theorem zgg:∀ x ws G (Q Q':Q3),(∀ w G',Q w G'->Q' w G')->remS x ws G Q->remS x ws G Q':=by
 intro x ws G Q Q' k h
 unfold remS at h ⊢
 split at h
 .split at h
  .exact ⟨h.1,h.2.1,k _ _ h.2.2⟩
  .exact h.elim
 .exact h.elim
theorem zez {K:Frg} {H:Hp}:∀ {ws:List W} {vs:List V} (k:Nat),Reps K H ws vs->Reps K H (ws.eraseIdx k) (vs.eraseIdx k)
 | [],vs,k,h=>by
  cases (show vs=[] from h)
  exact rfl
 |w::ws,vs,0,h=>by
  obtain ⟨v,t,rfl,h,hs⟩:=h
  exact hs
 |w::ws,vs,k+1,h=>by
  obtain ⟨v,t,rfl,h,hs⟩:=h
  exact ⟨v,_,rfl,h,zez k hs⟩
theorem zpG {X:Cx} (hu:X.A.units+200<cLine):MtR X "list.remove" (lowM X.K remS):=by
 intro pins s σ H x xs v us Q I rx rxs h
 obtain ⟨w,ws,G,rw1,rs,ab,h⟩:=h
 unfold remS at h
 split at h
 .rename_i p y
  cases (show x=.ref p from rw1)
  cases (show v=Value.ref p from rx)
  obtain ⟨vy,rfl,ry⟩:=zdo rs
  obtain ⟨uy,rfl,ruy⟩:=zc6 rxs
  split at h
  .rename_i ys e
   obtain ⟨⟨p1,p2,p3⟩,ha,h⟩:=h
   obtain ⟨vs,ev,rr⟩:=ab.lst e
   obtain ⟨z,its,n,r,hl,e1⟩:=I.lstM ev
   have gr:Grow X.K H (upd H p (.lst (vs.eraseIdx (ys.findIdx fun w=>eqW w y)))):=ab.grow e
   have hm:=zmL I (x:=y) rr r p2
   have fe:its.findIdx (eqI X.K H y)=ys.findIdx (fun w=>eqW w y):=by rw [← zcI,hm,zcI]
   have ha':its.any (eqI X.K H y)=true:=by rw [zkS I rr r p2];exact ha
   have hlt:its.findIdx (eqI X.K H y)<its.length:=List.findIdx_lt_length.mpr (List.any_eq_true.mp ha')
   refine call_meets PySem.F.slot_list_remove ⟨_,e1,rfl⟩ PySem.F.entry_list_remove (PySem.F.args_list_remove_2 _ _)
    (rm_at p its.toArray n uy (eqI X.K H y) (its.findIdx (eqI X.K H y)) (by simpa using hlt) ?_ ?_ (by rw [List.size_toArray];omega)) ⟨e1,fun z hz'=>?_,?_⟩
   .simpa using List.findIdx_getElem (w:=hlt)
   .intro m hm' hlt'
    simpa using List.not_of_lt_findIdx hlt'
   .refine zno I ry ruy p1 rr r p2 ?_ z (by simpa using hz')
    show X.A.units+1+min (deps ys) (dep y)<cLine
    omega
   .refine ⟨.non,_,I.lset (its':=its.eraseIdx (ys.findIdx fun w=>eqW w y)) ev e1 ?_ (r.eraseIdx _) ?_,rfl,h .non _ gr rfl (ab.chg e ⟨_,rfl,(zez _ rr).mono gr⟩)⟩
    .rw [fe]
     show its.toArray.eraseIdxIfInBounds _=_
     rw [List.eraseIdxIfInBounds_toArray]
    .have:=zgL vs (ys.findIdx fun w=>eqW w y)
     omega
  .exact h.elim
 .exact h.elim
abbrev eRem:Mt3:=⟨"remove", "list", remS⟩
theorem zoM {q:Pr} {A:Around} (hu:A.units+200<cLine):MtE (q.at A) eRem/\zhb eRem:=⟨zix PySem.F.plainAttrs_list PySem.F.slot_list_remove PySem.F.type_list_remove (fun X f=>zpG (by rw [f.A];exact hu)) zgg,zgg⟩
end L3
set_option Elab.async false
set_option linter.all false
set_option maxRecDepth 100000
set_option maxHeartbeats 8000000
namespace L3
open PySem PySem.Spec PyProof.Rows L2 PySem.SeqAt
structure Ord (n:Nat) (lt:Nat->Nat->Bool):Prop where
 tr:∀ a b c,a<n->b<n->c<n->lt b a=false->lt c b=false->lt c a=false
 as:∀ a b,a<n->b<n->lt a b=true->lt b a=false
theorem zbC {α β:Type} (lt:Nat->Nat->Bool) (f:α->PySem.W.KasT β):∀ t:PySem.W.KasT α,krun lt (t.bind f)=krun lt (f (krun lt t))
 | .ret a=>rfl
 | .ask i j k=>zbC lt f (k (lt i j))
section
variable {n : Nat} {lt : Nat → Nat → Bool}
def Le (lt:Nat->Nat->Bool) (p:Array Nat) (a b:Nat):Prop:=lt (p.getD b 0) (p.getD a 0)=false
def Up (lt:Nat->Nat->Bool) (p:Array Nat) (m:Nat):Prop:=∀ a b,a<b->b<m->Le lt p a b
def Dn (lt:Nat->Nat->Bool) (p:Array Nat) (m:Nat):Prop:=∀ a b,a<b->b<m->Le lt p b a
def Ev (lt:Nat->Nat->Bool) (p:Array Nat) (i m:Nat):Prop:=∀ a b,i<=a->a<m->i<=b->b<m->Le lt p a b
theorem Le.tr (O:Ord n lt) (hn:0<n) {p:Array Nat} (h:Pm n p) {a b c:Nat} (x:Le lt p a b) (y:Le lt p b c):Le lt p a c:=O.tr _ _ _ (h.lt hn _) (h.lt hn _) (h.lt hn _) x y
theorem Le.rf (O:Ord n lt) (hn:0<n) {p:Array Nat} (h:Pm n p) (a:Nat):Le lt p a a:=by
 unfold Le
 cases e:lt (p.getD a 0) (p.getD a 0) with
 |false=>rfl
 |true=>rw [← e];exact O.as _ _ (h.lt hn _) (h.lt hn _) e
theorem Le.of (O:Ord n lt) (hn:0<n) {p:Array Nat} (h:Pm n p) {a b:Nat} (e:lt (p.getD a 0) (p.getD b 0)=true):Le lt p a b:=O.as _ _ (h.lt hn _) (h.lt hn _) e
theorem Pm.size {p:Array Nat} (h:Pm n p):p.size=n:=by
 have:=Array.perm_iff_toList_perm.mp h
 have:=this.length_eq
 simpa using this
theorem zkO {p q:Array Nat} {i j:Nat} (e:p[i]?=q[j]?):p.getD i 0=q.getD j 0:=by
 rw [Array.getD_eq_getD_getElem?,Array.getD_eq_getD_getElem?,e]
theorem zdj {p:Array Nat} {i j:Nat} (hj:j<=p.size) (k:Nat):(PySem.W.kas_rev p i j).getD k 0=p.getD (if i<=k/\k<j then i+j - 1 - k else k) 0:=by
 apply zkO
 unfold PySem.W.kas_rev
 rw [getElem?_mirror_all hj]
 split <;> rfl
theorem zns {p:Array Nat} {k l:Nat} (hk:k<p.size) (hl:l<=k) (a:Nat):(bubble p k (k - l)).getD a 0=p.getD (if a=l then k else if l<a/\a<=k then a - 1 else a) 0:=by
 apply zkO
 rw [getElem?_bubble hk _ (by omega),show k - (k - l)=l by omega]
 repeat' split
 all_goals rfl
theorem zhX (O:Ord n lt) (hn:0<n) {p:Array Nat} (h:Pm n p):∀ f m,1<=m->Up lt p m->Up lt p (krun lt (PySem.W.kas_asc p f m))/\m<=krun lt (PySem.W.kas_asc p f m)/\krun lt (PySem.W.kas_asc p f m)<=m+f /\
  (krun lt (PySem.W.kas_asc p f m)<m+f->lt (p.getD (krun lt (PySem.W.kas_asc p f m)) 0) (p.getD (krun lt (PySem.W.kas_asc p f m) - 1) 0)=true)
 | 0,m,hm,u=>⟨u,Nat.le_refl _,Nat.le_refl _,fun h=>absurd h (Nat.lt_irrefl _)⟩
 |f+1,m,hm,u=>by
  show Up lt p (krun lt (if lt (p.getD m 0) (p.getD (m - 1) 0)=true then _ else _))/\m<=krun lt (if lt (p.getD m 0) (p.getD (m - 1) 0)=true then _ else _)/\krun lt (if lt (p.getD m 0) (p.getD (m - 1) 0)=true then _ else _)<=_ /\
   (krun lt (if lt (p.getD m 0) (p.getD (m - 1) 0)=true then _ else _)<_->lt (p.getD (krun lt (if lt (p.getD m 0) (p.getD (m - 1) 0)=true then _ else _)) 0) (p.getD (krun lt (if lt (p.getD m 0) (p.getD (m - 1) 0)=true then _ else _) - 1) 0)=true)
  cases e:lt (p.getD m 0) (p.getD (m - 1) 0) with
  |true =>
   simp only [if_true]
   exact ⟨u,Nat.le_refl _,Nat.le_add_right _ _,fun _=>e⟩
  |false =>
   simp only [if_false,zzB]
   have u':Up lt p (m+1):=fun a b ab bm=>by
    by_cases hb:b<m
    .exact u a b ab hb
    .obtain rfl:b=m:=by omega
     by_cases ha:a=b - 1
     .rw [ha];exact e
     .exact Le.tr O hn h (u a (b - 1) (by omega) (by omega)) e
   obtain ⟨r1,r2,r3,r4⟩:=zhX O hn h f (m+1) (by omega) u'
   exact ⟨r1,by omega,by omega,fun hlt=>r4 (by omega)⟩
theorem znn (O:Ord n lt) (hn:0<n) {p:Array Nat} (h:Pm n p) {i m:Nat} (hm:m<=n) (d:Dn lt p m) (e:Ev lt p i m):Dn lt (PySem.W.kas_rev p i m) m:=fun a b ab bm=>by
 have hz:m<=p.size:=by rw [h.size];exact hm
 unfold Le
 rw [zdj hz,zdj hz]
 by_cases ha:i<=a
 .rw [if_pos ⟨ha,by omega⟩,if_pos ⟨by omega,bm⟩]
  exact e _ _ (by omega) (by omega) (by omega) (by omega)
 .rw [if_neg (by omega)]
  by_cases hb:i<=b
  .rw [if_pos ⟨hb,bm⟩]
   exact d _ _ (by omega) (by omega)
  .rw [if_neg (by omega)]
   exact d a b ab bm
theorem zqW {p:Array Nat} (h:Pm n p) {m:Nat} (hm:m<=n) (d:Dn lt p m):Up lt (PySem.W.kas_rev p 0 m) m:=fun a b ab bm=>by
 have hz:m<=p.size:=by rw [h.size];exact hm
 unfold Le
 rw [zdj hz,zdj hz,if_pos ⟨Nat.zero_le _,bm⟩,if_pos ⟨Nat.zero_le _,by omega⟩]
 exact d _ _ (by omega) (by omega)
theorem zfE (O:Ord n lt) (hn:0<n):∀ f (p:Array Nat) m q,Pm n p->1<=m->m+f<=n->q+1<=m->Dn lt p m->Ev lt p (m - (q+1)) m ->
  ∃ p' m' q',krun lt (PySem.W.kas_desc f p m q)=(p',m',q')/\Pm n p'/\1<=m'/\m'<=m+f/\q'+1<=m'/\Dn lt p' m'/\Ev lt p' (m' - (q'+1)) m'
 | 0,p,m,q,h,h1,h2,h3,d,e=>⟨p,m,q,rfl,h,h1,Nat.le_refl _,h3,d,e⟩
 |f+1,p,m,q,h,h1,h2,h3,d,e=>by
  show ∃ p' m' q',krun lt (if lt (p.getD m 0) (p.getD (m - 1) 0)=true then _ else _)=_/\_
  cases c:lt (p.getD m 0) (p.getD (m - 1) 0) with
  |true =>
   rw [if_pos rfl]
   have one:∀ p':Array Nat,Pm n p'->Dn lt p' m->(∀ a,a<m->Le lt p' m a)->∃ p'' m' q',krun lt (PySem.W.kas_desc f p' (m+1) 0)=(p'',m',q')/\Pm n p''/\1<=m'/\m'<=m+(f+1)/\q'+1<=m'/\Dn lt p'' m'/\Ev lt p'' (m' - (q'+1)) m':=fun p' h' d' l'=>by
    obtain ⟨p'',m',q',e1,e2,e3,e4,e5,e6,e7⟩:=zfE O hn f p' (m+1) 0 h' (by omega) (by omega) (by omega) (fun a b ab bm=>by
     by_cases hb:b<m
     .exact d' a b ab hb
     .obtain rfl:b=m:=by omega
      exact l' a ab) (fun a b h1 h2 h3 h4=>by
       obtain rfl:a=m:=by omega
       obtain rfl:b=a:=by omega
       exact Le.rf O hn h' _)
    exact ⟨p'',m',q',e1,e2,e3,by omega,e5,e6,e7⟩
   have low:∀ a,a<m->Le lt p m a:=fun a ha=>by
    have x:=Le.of O hn h c
    by_cases q1:a=m - 1
    .rw [q1];exact x
    .exact Le.tr O hn h x (d a (m - 1) (by omega) (by omega))
   split
   .refine one _ (h.rev _ _) (znn O hn h (by omega) d e) fun a ha=>?_
    have hz:m<=p.size:=by rw [h.size];omega
    unfold Le
    rw [zdj hz,zdj hz,if_neg (by omega:¬ (m - (q+1)<=m/\m<m))]
    split
    .exact low _ (by omega)
    .exact low _ ha
   .exact one p h d low
  |false =>
   rw [if_neg (by decide)]
   show ∃ p' m' q',krun lt (if lt (p.getD (m - 1) 0) (p.getD m 0)=true then _ else _)=_/\_
   cases c':lt (p.getD (m - 1) 0) (p.getD m 0) with
   |true =>
    rw [if_pos rfl]
    exact ⟨p,m,q,rfl,h,h1,by omega,h3,d,e⟩
   |false =>
    rw [if_neg (by decide)]
    have x:Le lt p (m - 1) m:=c
    have y:Le lt p m (m - 1):=c'
    obtain ⟨p'',m',q',e1,e2,e3,e4,e5,e6,e7⟩:=zfE O hn f p (m+1) (q+1) h (by omega) (by omega) (by omega) (fun a b ab bm=>by
     by_cases hb:b<m
     .exact d a b ab hb
     .obtain rfl:b=m:=by omega
      by_cases q1:a=b - 1
      .rw [q1];exact y
      .exact Le.tr O hn h y (d a (b - 1) (by omega) (by omega))) (fun a b h1 h2 h3 h4=>by
       have up:∀ a,m - (q+1)<=a->a<m+1->Le lt p a m:=fun a h1 h2=>by
        by_cases q1:a=m
        .rw [q1];exact Le.rf O hn h _
        .exact Le.tr O hn h (e a (m - 1) h1 (by omega) (by omega) (by omega)) x
       have dn:∀ a,m - (q+1)<=a->a<m+1->Le lt p m a:=fun a h1 h2=>by
        by_cases q1:a=m
        .rw [q1];exact Le.rf O hn h _
        .exact Le.tr O hn h y (e (m - 1) a (by omega) (by omega) h1 (by omega))
       exact Le.tr O hn h (up a (by omega) h2) (dn b (by omega) h4))
    exact ⟨p'',m',q',e1,e2,e3,by omega,e5,e6,e7⟩
theorem zh4 (O:Ord n lt) (hn:0<n) {p:Array Nat} (h:Pm n p) {m:Nat} (h1:1<=m) (h2:m<=n) (d:Dn lt p m):Pm n (krun lt (PySem.W.kas_tail3 m n p)).2/\Up lt (krun lt (PySem.W.kas_tail3 m n p)).2 (krun lt (PySem.W.kas_tail3 m n p)).1/\(krun lt (PySem.W.kas_tail3 m n p)).1<=n:=by
 unfold PySem.W.kas_tail3
 rw [zbC]
 obtain ⟨r1,r2,r3,r4⟩:=zhX O hn (h.rev 0 m) (n - m) m h1 (zqW h h2 d)
 exact ⟨h.rev 0 m,r1,by show krun lt _<=n;omega⟩
theorem ziL (O:Ord n lt) (hn:0<n) {p:Array Nat} (h:Pm n p) {m:Nat} (h1:1<=m) (h2:m<n) (d:Dn lt p (m+1)):Pm n (krun lt (PySem.W.kas_descPart m n p)).2/\Up lt (krun lt (PySem.W.kas_descPart m n p)).2 (krun lt (PySem.W.kas_descPart m n p)).1/\(krun lt (PySem.W.kas_descPart m n p)).1<=n:=by
 unfold PySem.W.kas_descPart
 rw [zbC]
 obtain ⟨p',m',q',e1,e2,e3,e4,e5,e6,e7⟩:=zfE O hn (n - (m+1)) p (m+1) 0 h (by omega) (by omega) (by omega) d (fun a b h1 h2 h3 h4=>by
  obtain rfl:a=m:=by omega
  obtain rfl:b=a:=by omega
  exact Le.rf O hn h _)
 rw [e1]
 dsimp only
 split
 .exact zh4 O hn (e2.rev _ _) e3 (by omega) (znn O hn e2 (by omega) e6 e7)
 .exact zh4 O hn e2 e3 (by omega) e6
theorem zk0 (O:Ord n lt) (hn:0<n) {p:Array Nat} (h:Pm n p):Pm n (krun lt (PySem.W.kas_count n p)).2/\Up lt (krun lt (PySem.W.kas_count n p)).2 (krun lt (PySem.W.kas_count n p)).1/\(krun lt (PySem.W.kas_count n p)).1<=n:=by
 unfold PySem.W.kas_count
 rw [zbC]
 obtain ⟨r1,r2,r3,r4⟩:=zhX O hn h (n - 1) 1 (Nat.le_refl _) (fun a b ab bm=>by omega)
 generalize krun lt (PySem.W.kas_asc p (n - 1) 1)=m at r1 r2 r3 r4
 split
 .exact ⟨h,r1,by show m<=n;omega⟩
 .rename_i hne
  have hne:m≠n:=by simpa using hne
  have c:=r4 (by omega)
  have x:=Le.of O hn h c
  split
  .rename_i hm
   show (fun x:Nat×Array Nat=>Pm n x.2/\Up lt x.2 x.1/\x.1<=n) (krun lt (if lt (p.getD 0 0) (p.getD (m - 1) 0)=true then PySem.W.KasT.ret (m,p) else PySem.W.kas_descPart m n (PySem.W.kas_rev p 0 m)))
   cases c':lt (p.getD 0 0) (p.getD (m - 1) 0) with
   |true =>
    simp only [if_true]
    exact ⟨h,r1,by show m<=n;omega⟩
   |false =>
    simp only [if_false,zzB]
    have y:Le lt p (m - 1) 0:=c'
    have ev:Ev lt p 0 m:=fun a b _ ha _ hb=>by
     have z1:Le lt p a (m - 1):=by
      by_cases q:a=m - 1
      .rw [q];exact Le.rf O hn h _
      .exact r1 a (m - 1) (by omega) (by omega)
     have z2:Le lt p 0 b:=by
      by_cases q:b=0
      .rw [q];exact Le.rf O hn h _
      .exact r1 0 b (by omega) hb
     exact Le.tr O hn h (Le.tr O hn h z1 y) z2
    refine ziL O hn (h.rev _ _) r2 (by omega) fun a b ab bm=>?_
    have hz:m<=p.size:=by rw [h.size];omega
    unfold Le
    rw [zdj hz,zdj hz,if_pos ⟨Nat.zero_le _,by omega⟩]
    by_cases hb:b<m
    .rw [if_pos ⟨Nat.zero_le _,hb⟩]
     exact ev _ _ (Nat.zero_le _) (by omega) (Nat.zero_le _) (by omega)
    .rw [if_neg (by omega)]
     obtain rfl:b=m:=by omega
     exact Le.tr O hn h x (ev _ _ (Nat.zero_le _) (by omega) (Nat.zero_le _) (by omega))
  .refine ziL O hn h r2 (by omega) fun a b ab bm=>?_
   obtain rfl:m=1:=by omega
   obtain rfl:b=1:=by omega
   obtain rfl:a=0:=by omega
   exact x
theorem zdG (O:Ord n lt) (hn:0<n) {p:Array Nat} (h:Pm n p) {k:Nat} (u:Up lt p k):∀ f l r,r<=l+f->r<=k->l<=k->(∀ a,a<l->Le lt p a k)->(∀ a,r<=a->a<k->lt (p.getD k 0) (p.getD a 0)=true) ->
  krun lt (PySem.W.kas_place p k f l r)<=k/\(∀ a,a<krun lt (PySem.W.kas_place p k f l r)->Le lt p a k)/\(∀ a,krun lt (PySem.W.kas_place p k f l r)<=a->a<k->lt (p.getD k 0) (p.getD a 0)=true)
 | 0,l,r,hf,hr,hl,lo,hi=>⟨hl,lo,fun a h1 h2=>hi a (by show r<=a;have:l<=a:=h1;omega) h2⟩
 |f+1,l,r,hf,hr,hl,lo,hi=>by
  by_cases c0:l>=r
  .have e:PySem.W.kas_place p k (f+1) l r=.ret l:=if_pos c0
   rw [e]
   exact ⟨hl,lo,fun a h1 h2=>hi a (by show r<=a;have:l<=a:=h1;omega) h2⟩
  .have e:krun lt (PySem.W.kas_place p k (f+1) l r)=krun lt (if lt (p.getD k 0) (p.getD ((l+r) / 2) 0)=true then PySem.W.kas_place p k f l ((l+r) / 2) else PySem.W.kas_place p k f ((l+r) / 2+1) r):=by
    show krun lt (if l>=r then _ else _)=_
    rw [if_neg c0]
    rfl
   rw [e]
   cases c:lt (p.getD k 0) (p.getD ((l+r) / 2) 0) with
   |true =>
    simp only [if_true]
    refine zdG O hn h u f l ((l+r) / 2) (by omega) (by omega) hl lo fun a h1 h2=>?_
    cases q:lt (p.getD k 0) (p.getD a 0) with
    |true=>rfl
    |false =>
     have z:Le lt p ((l+r) / 2) a:=by
      by_cases q1:a=(l+r) / 2
      .rw [q1];exact Le.rf O hn h _
      .exact u _ _ (by omega) h2
     have:=Le.tr O hn h z (show Le lt p a k from q)
     rw [show lt (p.getD k 0) (p.getD ((l+r) / 2) 0)=false from this] at c
     cases c
   |false =>
    simp only [if_false,zzB]
    refine zdG O hn h u f ((l+r) / 2+1) r (by omega) hr (by omega) (fun a ha=>?_) hi
    have z:Le lt p a ((l+r) / 2):=by
     by_cases q1:a=(l+r) / 2
     .rw [q1];exact Le.rf O hn h _
     .exact u _ _ (by omega) (by omega)
    exact Le.tr O hn h z c
theorem ziP (O:Ord n lt) (hn:0<n):∀ f (p:Array Nat) k,Pm n p->k+f<=n->Up lt p k->Up lt (krun lt (PySem.W.kas_bin f p k)) (k+f)
 | 0,p,k,h,hk,u=>u
 |f+1,p,k,h,hk,u=>by
  show Up lt (krun lt ((PySem.W.kas_place p k k 0 k).bind _)) _
  rw [zbC]
  obtain ⟨r1,r2,r3⟩:=zdG O hn h u k 0 k (by omega) (Nat.le_refl _) (Nat.zero_le _) (fun a h=>absurd h (Nat.not_lt_zero _)) (fun a h1 h2=>by omega)
  generalize krun lt (PySem.W.kas_place p k k 0 k)=l at r1 r2 r3
  rw [show k+(f+1)=(k+1)+f by omega]
  refine ziP O hn f _ (k+1) ((bubble_perm p k _).trans h) (by omega) fun a b ab bm=>?_
  have hz:k<p.size:=by rw [h.size];omega
  unfold Le
  rw [zns hz r1,zns hz r1]
  by_cases ha:a=l
  .rw [if_pos ha,if_neg (by omega),if_pos (by omega)]
   exact Le.of O hn h (r3 (b - 1) (by omega) (by omega))
  .rw [if_neg ha]
   by_cases hb:b=l
   .rw [if_pos hb,if_neg (by omega)]
    exact r2 a (by omega)
   .rw [if_neg hb]
    by_cases ha':l<a/\a<=k
    .rw [if_pos ha',if_pos (by omega)]
     exact u _ _ (by omega) (by omega)
    .rw [if_neg ha']
     by_cases hb':l<b/\b<=k
     .rw [if_pos hb']
      by_cases q:a=b - 1
      .exact absurd q (by omega)
      .exact u _ _ (by omega) (by omega)
     .rw [if_neg hb']
      exact u a b ab (by omega)
theorem zlx (O:Ord n lt) (hn:0<n):Up lt (krun lt (PySem.W.kas_sort n)) n:=by
 unfold PySem.W.kas_sort
 rw [zbC]
 obtain ⟨r1,r2,r3⟩:=zk0 O hn (p:=List.toArray (List.range n)) (Array.Perm.refl _)
 generalize krun lt (PySem.W.kas_count n (List.toArray (List.range n)))=r at r1 r2 r3
 split
 .rename_i c
  have z:Up lt r.2 (max r.1 1):=fun a b ab bm=>by
   by_cases q:r.1=0
   .exact absurd bm (by rw [q];omega)
   .exact r2 a b ab (by omega)
  have:=ziP O hn (n - max r.1 1) r.2 (max r.1 1) r1 (by omega) z
  rw [show max r.1 1+(n - max r.1 1)=n by omega] at this
  exact this
 .rename_i c
  intro a b ab bm
  exact r2 a b ab (by omega)
theorem znJ (O:Ord n lt):(srtP n lt).Pairwise fun a b=>lt b a=false:=by
 unfold srtP
 split
 .rename_i h
  match n,h with
  | 0,_=>exact .nil
  | 1,_=>exact List.pairwise_singleton _ _
 .rename_i h
  have hn:0<n:=by omega
  have u:=zlx O hn
  have hp:Pm n (krun lt (PySem.W.kas_sort n)):=zhI lt (zhk hn)
  refine List.pairwise_iff_getElem.mpr fun i j hi hj ij=>?_
  have hi':i<(krun lt (PySem.W.kas_sort n)).size:=by simpa using hi
  have hj':j<(krun lt (PySem.W.kas_sort n)).size:=by simpa using hj
  have:=u i j ij (by rw [← hp.size];exact hj')
  unfold Le at this
  simpa [Array.getD,hi',hj'] using this
end
end L3
set_option Elab.async false
set_option linter.all false
set_option maxRecDepth 100000
set_option maxHeartbeats 8000000
namespace L3
open PySem PySem.Spec PyProof.Rows L2 PySem.SeqAt
mutual
def st:W->Bool
 | .str _=>true
 | .tup ws=>decide (ws.length<=1000)&&sts ws
 |_=>false
def sts:List W->Bool
 | []=>true
 |w::ws=>st w&&sts ws
end
theorem zbW {ws:List W}:st (.tup ws)=true↔ws.length<=1000/\sts ws=true:=by simp only [st,Bool.and_eq_true,decide_eq_true_eq]
theorem zaD {w:W} {ws:List W}:sts (w::ws)=true↔st w=true/\sts ws=true:=by simp only [sts,Bool.and_eq_true]
theorem zas:∀ {ws:List W} {w:W},sts ws=true->w∈ws->st w=true
 |x::ws,w,h,hw=>by
  have h:=zaD.mp h
  rcases List.mem_cons.mp hw with rfl | hw
  .exact h.1
  .exact zas h.2 hw
theorem zcq:∀ {ws:List W},(∀ w∈ws,st w=true)->sts ws=true
 | [],_=>rfl
 |w::ws,h=>zaD.mpr ⟨h w List.mem_cons_self,zcq fun x hx=>h x (List.mem_cons_of_mem _ hx)⟩
theorem zpt:∀ w:W,st w=true->pur w=true:=by
 intro w
 induction w using W.ind with
 |tup ws ih =>
  intro h
  show purs ws=true
  replace h:sts ws=true:=(zbW.mp h).2
  induction ws with
  |nil=>rfl
  |cons x xs ih' =>
   have h':=zaD.mp h
   exact zax.mpr ⟨ih x List.mem_cons_self h'.1,ih' (fun w hw=>ih w (List.mem_cons_of_mem _ hw)) h'.2⟩
 |str _=>intro _;rfl
 |non=>intro h;cases h
 |bl _=>intro h;cases h
 |int _=>intro h;cases h
 |ty _=>intro h;cases h
 |ref _=>intro h;cases h
 |lsf _=>intro h;cases h
 |exc _ _ _=>intro h;cases h
 |dcf _ _=>intro h;cases h
theorem zjM:∀ a b:W,st a=true->eqW a b=true->a=b:=by
 intro a
 induction a using W.ind with
 |tup xs ih =>
  intro b h e
  cases b with
  |tup ys =>
   replace h:sts xs=true:=(zbW.mp h).2
   replace e:eqWs xs ys=true:=e
   congr 1
   induction xs generalizing ys with
   |nil=>cases ys with
    |nil=>rfl
    |cons _ _=>cases e
   |cons x xs ih'=>cases ys with
    |nil=>cases e
    |cons y ys =>
     have h':=zaD.mp h
     simp only [eqWs,Bool.and_eq_true] at e
     rw [ih x List.mem_cons_self y h'.1 e.1,ih' (fun w hw=>ih w (List.mem_cons_of_mem _ hw)) ys h'.2 e.2]
  |_=>cases e
 |str x =>
  intro b h e
  cases b with
  |str y=>rw [eq_of_beq (show (x==y)=true from e)]
  |_=>cases e
 |non=>intro _ h;cases h
 |bl _=>intro _ h;cases h
 |int _=>intro _ h;cases h
 |ty _=>intro _ h;cases h
 |ref _=>intro _ h;cases h
 |lsf _=>intro _ h;cases h
 |exc _ _ _=>intro _ h;cases h
 |dcf _ _=>intro _ h;cases h
theorem znH {a b:W} (ha:st a=true) (h:a≠b):eqW a b=false:=by
 cases e:eqW a b with
 |false=>rfl
 |true=>exact absurd (zjM a b ha e) h
theorem znG {a:W} (ha:st a=true):eqW a a=true:=zdx (zpt a ha)
theorem zca {x:W} {xs ys:List W} (hx:st x=true):ltWs (x::xs) (x::ys)=ltWs xs ys:=by simp only [ltWs,znG hx,if_true]
theorem za9 {x y:W} {xs ys:List W} (hx:st x=true) (h:x≠y):ltWs (x::xs) (y::ys)=ltW x y:=by
 simp only [ltWs]
 rw [znH hx h]
 exact if_neg (by decide)
theorem znF {x y:Str} (h:x.cps.toList=y.cps.toList):x=y:=by
 obtain ⟨⟨a⟩⟩:=x
 obtain ⟨⟨b⟩⟩:=y
 cases (show a=b from h)
 rfl
theorem zkp:∀ a:W,st a=true->ltW a a=some false:=by
 intro a
 induction a using W.ind with
 |tup xs ih =>
  intro h
  show ltWs xs xs=some false
  replace h:sts xs=true:=(zbW.mp h).2
  induction xs with
  |nil=>rfl
  |cons x xs ih' =>
   have h':=zaD.mp h
   rw [zca h'.1]
   exact ih' (fun w hw=>ih w (List.mem_cons_of_mem _ hw)) h'.2
 |str x=>intro _;simp [ltW]
 |non=>intro h;cases h
 |bl _=>intro h;cases h
 |int _=>intro h;cases h
 |ty _=>intro h;cases h
 |ref _=>intro h;cases h
 |lsf _=>intro h;cases h
 |exc _ _ _=>intro h;cases h
 |dcf _ _=>intro h;cases h
theorem zmf:∀ a b:W,st a=true->st b=true->ltW a b=some true->ltW b a=some false:=by
 intro a
 induction a using W.ind with
 |tup xs ih =>
  intro b h hb e
  cases b with
  |tup ys =>
   replace h:sts xs=true:=(zbW.mp h).2
   replace hb:sts ys=true:=(zbW.mp hb).2
   replace e:ltWs xs ys=some true:=e
   show ltWs ys xs=some false
   induction xs generalizing ys with
   |nil=>cases ys with
    |nil=>cases e
    |cons _ _=>rfl
   |cons x xs ih'=>cases ys with
    |nil=>cases e
    |cons y ys =>
     have h':=zaD.mp h
     have hb':=zaD.mp hb
     by_cases q:x=y
     .subst q
      rw [zca h'.1] at e ⊢
      exact ih' (fun w hw=>ih w (List.mem_cons_of_mem _ hw)) ys h'.2 hb'.2 e
     .rw [za9 h'.1 q] at e
      rw [za9 hb'.1 (Ne.symm q)]
      exact ih x List.mem_cons_self y h'.1 hb'.1 e
  |_=>cases e
 |str x =>
  intro b _ hb e
  cases b with
  |str y =>
   simp only [ltW,Option.some.injEq,decide_eq_true_eq,decide_eq_false_iff_not] at e ⊢
   exact List.lt_asymm e
  |_=>cases e
 |non=>intro _ h;cases h
 |bl _=>intro _ h;cases h
 |int _=>intro _ h;cases h
 |ty _=>intro _ h;cases h
 |ref _=>intro _ h;cases h
 |lsf _=>intro _ h;cases h
 |exc _ _ _=>intro _ h;cases h
 |dcf _ _=>intro _ h;cases h
theorem zqk:∀ a b:W,st a=true->st b=true->ltW a b=some false->a=b\/ltW b a=some true:=by
 intro a
 induction a using W.ind with
 |tup xs ih =>
  intro b h hb e
  cases b with
  |tup ys =>
   replace h:sts xs=true:=(zbW.mp h).2
   replace hb:sts ys=true:=(zbW.mp hb).2
   replace e:ltWs xs ys=some false:=e
   show W.tup xs=W.tup ys\/ltWs ys xs=some true
   rw [W.tup.injEq]
   induction xs generalizing ys with
   |nil=>cases ys with
    |nil=>exact .inl rfl
    |cons _ _=>cases e
   |cons x xs ih'=>cases ys with
    |nil=>exact .inr rfl
    |cons y ys =>
     have h':=zaD.mp h
     have hb':=zaD.mp hb
     by_cases q:x=y
     .subst q
      rw [zca h'.1] at e ⊢
      rcases ih' (fun w hw=>ih w (List.mem_cons_of_mem _ hw)) ys h'.2 hb'.2 e with r | r
      .exact .inl (by rw [r])
      .exact .inr r
     .rw [za9 h'.1 q] at e
      rw [za9 hb'.1 (Ne.symm q)]
      rcases ih x List.mem_cons_self y h'.1 hb'.1 e with r | r
      .exact absurd r q
      .exact .inr r
  |_=>cases e
 |str x =>
  intro b _ hb e
  cases b with
  |str y =>
   simp only [ltW,Option.some.injEq,decide_eq_true_eq,decide_eq_false_iff_not] at e ⊢
   by_cases q:y.cps.toList<x.cps.toList
   .exact .inr q
   .exact .inl (by rw [znF (List.le_antisymm (List.not_lt.mp q) (List.not_lt.mp e))])
  |_=>cases e
 |non=>intro _ h;cases h
 |bl _=>intro _ h;cases h
 |int _=>intro _ h;cases h
 |ty _=>intro _ h;cases h
 |ref _=>intro _ h;cases h
 |lsf _=>intro _ h;cases h
 |exc _ _ _=>intro _ h;cases h
 |dcf _ _=>intro _ h;cases h
theorem lt_tr:∀ a b c:W,st a=true->st b=true->st c=true->ltW a b=some true->ltW b c=some true->ltW a c=some true:=by
 intro a
 induction a using W.ind with
 |tup xs ih =>
  intro b c h hb hc e e'
  cases b with
  |tup ys=>cases c with
   |tup zs =>
    replace h:sts xs=true:=(zbW.mp h).2
    replace hb:sts ys=true:=(zbW.mp hb).2
    replace hc:sts zs=true:=(zbW.mp hc).2
    replace e:ltWs xs ys=some true:=e
    replace e':ltWs ys zs=some true:=e'
    show ltWs xs zs=some true
    induction xs generalizing ys zs with
    |nil=>cases zs with
     |nil=>cases ys <;> cases e'
     |cons _ _=>rfl
    |cons x xs ih'=>cases ys with
     |nil=>cases e
     |cons y ys=>cases zs with
      |nil=>cases e'
      |cons z zs =>
       have h':=zaD.mp h
       have hb':=zaD.mp hb
       have hc':=zaD.mp hc
       by_cases q:x=y
       .subst q
        rw [zca h'.1] at e
        by_cases q':x=z
        .subst q'
         rw [zca h'.1] at e' ⊢
         exact ih' (fun w hw=>ih w (List.mem_cons_of_mem _ hw)) ys zs h'.2 hb'.2 hc'.2 e e'
        .rw [za9 h'.1 q'] at e' ⊢
         exact e'
       .rw [za9 h'.1 q] at e
        by_cases q':y=z
        .subst q'
         rw [za9 h'.1 q]
         exact e
        .rw [za9 hb'.1 q'] at e'
         by_cases q2:x=z
         .subst q2
          rw [zmf y x hb'.1 h'.1 e'] at e
          cases e
         .rw [za9 h'.1 q2]
          exact ih x List.mem_cons_self y z h'.1 hb'.1 hc'.1 e e'
   |_=>cases e'
  |_=>cases e
 |str x =>
  intro b c _ hb hc e e'
  cases b with
  |str y=>cases c with
   |str z =>
    simp only [ltW,Option.some.injEq,decide_eq_true_eq] at e e' ⊢
    exact List.lt_trans e e'
   |_=>cases e'
  |_=>cases e
 |non=>intro _ _ h;cases h
 |bl _=>intro _ _ h;cases h
 |int _=>intro _ _ h;cases h
 |ty _=>intro _ _ h;cases h
 |ref _=>intro _ _ h;cases h
 |lsf _=>intro _ _ h;cases h
 |exc _ _ _=>intro _ _ h;cases h
 |dcf _ _=>intro _ _ h;cases h
end L3
set_option Elab.async false
set_option linter.all false
set_option maxRecDepth 100000
set_option maxHeartbeats 8000000
namespace L3
open PySem PySem.Spec PyProof.Rows L2 PySem.SeqAt
def Can (ws:List W):Prop:=∀ x∈ws,∀ y∈ws,(ltW x y).isSome=true
abbrev zaR (ws:List W):Prop:=ws.Pairwise fun x y=>ltW x y=some true
theorem zcX {x y:W} (hx:st x=true) (hy:st y=true) (h:(ltW x y).isSome=true) (e:ltB x y=false):x=y\/ltW y x=some true:=by
 unfold ltB at e
 cases q:ltW x y with
 |none=>rw [q] at h;cases h
 |some b =>
  rw [q] at e
  cases (show b=false from e)
  exact zqk x y hx hy q
theorem znh {x y:W} (hx:st x=true) (hy:st y=true) (h:x=y\/ltW y x=some true):ltB x y=false:=by
 unfold ltB
 rcases h with rfl | h
 .rw [zkp x hx];rfl
 .rw [zmf y x hy hx h];rfl
theorem zp7 {ws:List W} (hs:sts ws=true) (hc:Can ws):Ord ws.length fun i j=>ltB (ws.getD i .non) (ws.getD j .non):=by
 have mem:∀ a,a<ws.length->ws.getD a .non∈ws:=fun a h=>by
  rw [List.getD_eq_getElem?_getD,List.getElem?_eq_getElem h];exact List.getElem_mem h
 constructor
 .intro a b c ha hb hc' h1 h2
  have sa:=zas hs (mem a ha)
  have sb:=zas hs (mem b hb)
  have sc:=zas hs (mem c hc')
  have q1:=zcX sb sa (hc _ (mem b hb) _ (mem a ha)) h1
  have q2:=zcX sc sb (hc _ (mem c hc') _ (mem b hb)) h2
  refine znh sc sa ?_
  rcases q1 with q1 | q1
  .rw [q1] at q2;exact q2
  .rcases q2 with q2 | q2
   .rw [q2];exact .inr q1
   .exact .inr (lt_tr _ _ _ sa sb sc q1 q2)
 .intro a b ha hb h
  have sa:=zas hs (mem a ha)
  have sb:=zas hs (mem b hb)
  refine znh sb sa (.inr ?_)
  have h:ltB (ws.getD a .non) (ws.getD b .non)=true:=h
  unfold ltB at h
  cases q:ltW (ws.getD a .non) (ws.getD b .non) with
  |none=>rw [q] at h;cases h
  |some v=>rw [q] at h;rw [show v=true from h]
theorem zm3 {ws:List W} (hs:sts ws=true) (hc:Can ws):(srt ws).Pairwise fun x y=>ltB y x=false:=List.pairwise_map.mpr (znJ (zp7 hs hc))
theorem ze4 {xs ys:List W} (h:xs.Perm ys) (e:sts ys=true):sts xs=true:=zcq fun w hw=>zas e (h.mem_iff.mp hw)
theorem zjI {ws:List W} (hs:sts ws=true) (hc:Can ws) (u:ws.Pairwise fun x y=>ltB y x=false) (nd:ws.Nodup):zaR ws:=by
 refine (List.Pairwise.and u nd).imp_of_mem fun {x y} hx hy h=>?_
 rcases zcX (zas hs hy) (zas hs hx) (hc y hy x hx) h.1 with e | e
 .exact absurd e.symm h.2
 .exact e
theorem Can.sub {xs ys:List W} (h:Can ys) (m:∀ x∈xs,x∈ys):Can xs:=fun x hx y hy=>h x (m x hx) y (m y hy)
theorem zes {ws:List W} (hs:sts ws=true) (hc:Can ws) (nd:ws.Nodup):zaR (srt ws) :=
 zjI (ze4 (zaM ws) hs) (hc.sub fun x hx=>(zaM ws).mem_iff.mp hx) (zm3 hs hc) ((zaM ws).nodup_iff.mpr nd)
theorem only:∀ {xs ys:List W},sts xs=true->sts ys=true->zaR xs->zaR ys->(∀ w,w∈xs↔w∈ys)->xs=ys
 | [],[],_,_,_,_,_=>rfl
 | [],y::_,_,_,_,_,h=>nomatch (h y).mpr List.mem_cons_self
 |x::_,[],_,_,_,_,h=>nomatch (h x).mp List.mem_cons_self
 |x::xs,y::ys,sx,sy,px,py,h=>by
  have sx':=zaD.mp sx
  have sy':=zaD.mp sy
  have px':=List.pairwise_cons.mp px
  have py':=List.pairwise_cons.mp py
  have irr:∀ {z:W},st z=true->ltW z z≠some true:=fun hz e=>by rw [zkp _ hz] at e;cases e
  have e:x=y:=by
   rcases List.mem_cons.mp ((h x).mp List.mem_cons_self) with e | hx
   .exact e
   .rcases List.mem_cons.mp ((h y).mpr List.mem_cons_self) with e | hy
    .exact e.symm
    .have q:=px'.1 y hy
     rw [zmf y x sy'.1 sx'.1 (py'.1 x hx)] at q
     cases q
  subst e
  rw [only sx'.2 sy'.2 px'.2 py'.2 fun w=>⟨fun hw=>?_,fun hw=>?_⟩]
  .rcases List.mem_cons.mp ((h w).mp (List.mem_cons_of_mem _ hw)) with e | hw'
   .exact absurd (e▸px'.1 w hw) (irr sx'.1)
   .exact hw'
  .rcases List.mem_cons.mp ((h w).mpr (List.mem_cons_of_mem _ hw)) with e | hw'
   .exact absurd (e▸py'.1 w hw) (irr sx'.1)
   .exact hw'
theorem zia {xs ys:List W} (hs:sts xs=true) (hc:Can xs) (nd:xs.Nodup) (sy:sts ys=true) (py:zaR ys) (h:∀ w,w∈ys↔w∈xs):srt xs=ys :=
 only (ze4 (zaM xs) hs) sy (zes hs hc nd) py fun w=>(zaM xs).mem_iff.trans (h w).symm
def uni (a b:List W):List W:=srt ((a.filter fun w=>!(b.any fun z=>eqW z w))++b)
theorem zlc {b:List W} {w:W} (hb:sts b=true):(b.any fun z=>eqW z w)=true↔w∈b:=by
 rw [List.any_eq_true]
 constructor
 .rintro ⟨z,hz,e⟩
  rw [← zjM z w (zas hb hz) e];exact hz
 .intro h
  exact ⟨w,h,znG (zas hb h)⟩
theorem ze2 {a b:List W} (hb:sts b=true) (w:W):w∈(a.filter fun w=>!(b.any fun z=>eqW z w))++b↔w∈a++b:=by
 simp only [List.mem_append,List.mem_filter]
 constructor
 .rintro (h | h)
  .exact .inl h.1
  .exact .inr h
 .rintro (h | h)
  .by_cases q:w∈b
   .exact .inr q
   .refine .inl ⟨h,?_⟩
    cases e:b.any fun z=>eqW z w with
    |false=>rfl
    |true=>exact absurd ((zlc hb).mp e) q
  .exact .inr h
theorem zpc {a b:List W} (hb:sts b=true) (na:a.Nodup) (nb:b.Nodup):((a.filter fun w=>!(b.any fun z=>eqW z w))++b).Nodup:=by
 refine List.nodup_append.mpr ⟨na.filter _,nb,?_⟩
 intro x hx y hy e
 subst e
 have:=(List.mem_filter.mp hx).2
 rw [(zlc hb).mpr hy] at this
 cases this
theorem zpd {a b us:List W} (hs:sts (a++b)=true) (hc:Can (a++b)) (na:a.Nodup) (nb:b.Nodup) (su:sts us=true) (pu:zaR us) (h:∀ w,w∈us↔w∈a++b):us=uni a b:=by
 have hb:sts b=true:=zcq fun w hw=>zas hs (List.mem_append.mpr (.inr hw))
 refine (zia (zcq fun w hw=>zas hs ((ze2 hb w).mp hw)) (hc.sub fun x hx=>(ze2 hb x).mp hx) (zpc hb na nb) su pu fun w=>?_).symm
 rw [h w,ze2 hb]
theorem zjJ {ws:List W} (hs:sts ws=true) (p:zaR ws):ws.Nodup:=p.imp_of_mem fun {x y} hx _ q e=>by
 subst e
 rw [zkp x (zas hs hx)] at q
 cases q
theorem znz {a:List W} (ha:sts a=true) (hc:Can a) (pa:zaR a):uni a []=a:=by
 have e:(a.filter fun w=>!(([]:List W).any fun z=>eqW z w))++[]=a:=by simp
 unfold uni
 rw [e]
 exact zia ha hc (zjJ ha pa) ha pa fun w=>Iff.rfl
theorem zln {a b:List W} (hb:sts b=true) (w:W):w∈uni a b↔w∈a++b:=((zaM _).mem_iff).trans (ze2 hb w)
end L3
set_option Elab.async false
set_option linter.all false
set_option maxRecDepth 100000
set_option maxHeartbeats 8000000
namespace K23
open PySem PySem.Spec L2 L3
def top (i:Nat):Stmt:=PySem.Challenge.pw_talkcourt_k23_after.main.body.getD i (.Pass ⟨0,0,0,0⟩)
def gls:List Str:=["str", "tuple", "list"]
def mts:List Str:=["pop", "join", "append", "remove"]
def its:List Str:=["range", "zip"]
def sxm:List (Scope->Expr->Option (List Expr)):=[lofM "reversed"]
def fns:List Str:=(["max", "len", "all", "list", "isinstance", "sorted", "int", "_law_deal", "_law_draw", "_law_saying", "_law_names", "_law_all_parts", "said_by", "_law_alike", "_law_words", "told_by", "sorted_once", "made_by", "_law_answers", "tuple"]:List Str)++(["Book", "_law_book", "joined", "_law_start", "_law_some", "_law_standing", "_law_says", "_law_moves", "heard_by", "open_after", "used_after", "after", "_law_replies", "_law_after", "_law_right", "law"]:List Str)
/- fn: 0 max,1 len,2 all,3 list,4 isinstance,5 sorted,6 int,7 _law_deal,8 _law_draw,9 _law_saying,10 _law_names,11 _law_all_parts,12 said_by,13 _law_alike,14 _law_words,15 told_by,16 sorted_once,17 made_by,18 _law_answers,19 tuple,20 Book,21 _law_book,22 joined,23 _law_start,24 _law_some,25 _law_standing,26 _law_says,27 _law_moves,28 heard_by,29 open_after,30 used_after,31 after,32 _law_replies,33 _law_after,34 _law_right,35 law -/
abbrev zbg:Stmt:=top 15
def zeG:List Str:=["_law_script", "_law_base", "_law_cells", "_law_number", "_law_cell"]
def zjt:ISs:=(.cons (.asg 2 (.lc (.nm 0) ["_law_cell"] [] (.val (.sl (.var 0) (.yes (.var 1)) (.yes (.con (.int 63))))) .no (.call 0 (.cons (.var 0) (.cons (.bin .Sub (.con (.int 0)) (.var 0)) .nil)))))
 (.cons (.asg 3 (.bin .Add (.con (.int 7919)) (.var 1)))
 (.cons (.for (.nm 4) (.val (.var 2)) (.cons (.asg 3 (.bin .Mod (.bin .Add (.bin .Mult (.var 3) (.con (.int 69621))) (.bin .Mod (.var 4) (.con (.int 2147483629)))) (.con (.int 2147483647))))
 .nil))
 (.cons (.ret (.dct ["seed", "number", "left"] (.cons (.var 3) (.cons (.con (.int 0)) (.cons (.spc 0 (.cons (.lc (.nm 0) ["_law_cell"] [] (.val (.var 2)) (.yes (.cmp .GtE (.var 0) (.bin .Pow (.con (.int 10)) (.con (.int 18))))) (.var 0)) .nil)) .nil)))))
 .nil))))
def zeL:MC:=⟨zaa zbg,zeG,true,fns.take 7,gls,mts,its,sxm,[]⟩
theorem zho:FnScope zeG ["_law_script", "_law_base"] (zaa zbg):=⟨rfl,rfl,rfl,by decide +kernel,rfl,by decide +kernel,by decide +kernel⟩
theorem zfy:mSs zjt zeL (zae zbg)=true:=by decide +kernel
abbrev zbf:Stmt:=top 16
def zeF:List Str:=["_law_deal_here", "_law_many", "_law_number", "_law_one", "_law_other"]
def zjs:ISs:=(.cons (.whl (.and (.cmp .Eq (.ix (.var 0) (.con (.str "number"))) (.con (.int 0))) (.cmp .Gt (.call 1 (.cons (.ix (.var 0) (.con (.str "left"))) .nil)) (.con (.int 0)))) (.cons (.asgI (.var 0) (.con (.str "number")) (.mth 0 (.ix (.var 0) (.con (.str "left"))) .nil))
 .nil))
 (.cons (.asg 2 (.ix (.var 0) (.con (.str "number"))))
 (.cons (.ite (.cmp .Gt (.var 2) (.con (.int 0))) (.cons (.asgI (.var 0) (.con (.str "number")) (.bin .FloorDiv (.var 2) (.var 1)))
 (.cons (.ret (.bin .Mod (.var 2) (.var 1)))
 .nil)) .nil)
 (.cons (.asg 3 (.bin .Mod (.bin .Add (.bin .Mult (.ix (.var 0) (.con (.str "seed"))) (.con (.int 48271))) (.con (.int 7919))) (.con (.int 2147483647))))
 (.cons (.asgI (.var 0) (.con (.str "seed")) (.bin .Mod (.bin .Add (.bin .Mult (.var 3) (.con (.int 40692))) (.con (.int 104729))) (.con (.int 2147483399))))
 (.cons (.asg 4 (.bin .Mod (.bin .Mult (.ix (.var 0) (.con (.str "seed"))) (.ix (.var 0) (.con (.str "seed")))) (.con (.int 2147483563))))
 (.cons (.ret (.bin .Mod (.bin .Add (.bin .Mult (.bin .Mod (.bin .Mult (.var 3) (.var 3)) (.con (.int 2147483629))) (.con (.int 2147483563))) (.var 4)) (.var 1)))
 .nil)))))))
def zeK:MC:=⟨zaa zbf,zeF,true,fns.take 8,gls,mts,its,sxm,[]⟩
theorem zhn:FnScope zeF ["_law_deal_here", "_law_many"] (zaa zbf):=⟨rfl,rfl,rfl,by decide +kernel,rfl,by decide +kernel,by decide +kernel⟩
theorem zfx:mSs zjs zeK (zae zbf)=true:=by decide +kernel
abbrev zaQ:Stmt:=top 18
def zb8:List Str:=["_law_deal_here", "_law_names_here", "_law_many", "_law_way", "_law_left", "_law_one"]
def zby:ISs:=(.cons (.ite (.cmp .Eq (.var 2) (.con (.int 1))) (.cons (.ret (.tup (.cons (.con (.str "say")) (.cons (.ix (.var 1) (.call 8 (.cons (.var 0) (.cons (.call 1 (.cons (.var 1) .nil)) .nil)))) .nil))))
 .nil) .nil)
 (.cons (.asg 3 (.call 8 (.cons (.var 0) (.cons (.con (.int 4)) .nil))))
 (.cons (.ite (.or (.cmp .Eq (.var 2) (.con (.int 2))) (.cmp .Eq (.var 3) (.con (.int 3)))) (.cons (.ret (.tup (.cons (.con (.str "not")) (.cons (.call 9 (.cons (.var 0) (.cons (.var 1) (.cons (.bin .Sub (.var 2) (.con (.int 1))) .nil)))) .nil))))
 .nil) .nil)
 (.cons (.asg 4 (.bin .Add (.con (.int 1)) (.call 8 (.cons (.var 0) (.cons (.bin .Sub (.var 2) (.con (.int 2))) .nil)))))
 (.cons (.asg 5 (.call 9 (.cons (.var 0) (.cons (.var 1) (.cons (.var 4) .nil)))))
 (.cons (.ret (.tup (.cons (.ix (.lst (.cons (.con (.str "and")) (.cons (.con (.str "or")) (.cons (.con (.str "if")) .nil)))) (.var 3)) (.cons (.var 5) (.cons (.call 9 (.cons (.var 0) (.cons (.var 1) (.cons (.bin .Sub (.bin .Sub (.var 2) (.con (.int 1))) (.var 4)) .nil)))) .nil)))))
 .nil))))))
def zdm:MC:=⟨zaa zaQ,zb8,true,fns.take 10,gls,mts,its,sxm,[]⟩
theorem zfg:FnScope zb8 ["_law_deal_here", "_law_names_here", "_law_many"] (zaa zaQ):=⟨rfl,rfl,rfl,by decide +kernel,rfl,by decide +kernel,by decide +kernel⟩
theorem zdW:mSs zby zdm (zae zaQ)=true:=by decide +kernel
abbrev za0:Stmt:=top 17
def zcB:List Str:=["_law_deal_here", "_law_many", "_law_letters", "_law_names_here", "_law_core", "_law_at", "_law_turn", "_law_step", "_law_k", "_law_name"]
def zaz:ISs:=(.cons (.asg 2 (.con (.str "abcdefghijklmnopqrstuvwxyz")))
 (.cons (.asg 3 (.lst .nil))
 (.cons (.asg 4 (.mth 1 (.con (.str "")) (.cons (.lc (.nm 0) ["_law_k"] [2,0] (.blt 0 (.cons (.call 8 (.cons (.var 0) (.cons (.con (.int 5)) .nil))) .nil)) .no (.ix (.var 1) (.call 8 (.cons (.var 2) (.cons (.con (.int 26)) .nil))))) .nil)))
 (.cons (.asg 5 (.call 8 (.cons (.var 0) (.cons (.bin .Add (.call 1 (.cons (.var 4) .nil)) (.con (.int 1))) .nil))))
 (.cons (.asg 6 (.call 8 (.cons (.var 0) (.cons (.con (.int 26)) .nil))))
 (.cons (.asg 7 (.ix (.lst (.cons (.con (.int 7)) (.cons (.con (.int 1)) .nil))) (.call 8 (.cons (.var 0) (.cons (.con (.int 2)) .nil)))))
 (.cons (.for (.nm 8) (.blt 0 (.cons (.var 1) .nil)) (.cons (.asg 9 (.bin .Add (.bin .Add (.sl (.var 4) .no (.yes (.var 5))) (.ix (.var 2) (.bin .Mod (.bin .Add (.var 6) (.bin .Mult (.var 7) (.var 8))) (.con (.int 26))))) (.sl (.var 4) (.yes (.var 5)) .no)))
 (.cons (.ite (.cmp .In (.var 9) (.tup (.cons (.con (.str "and")) (.cons (.con (.str "or")) (.cons (.con (.str "not")) (.cons (.con (.str "then")) .nil)))))) (.cons (.asg 9 (.bin .Add (.var 9) (.con (.str "q"))))
 .nil) .nil)
 (.cons (.ex (.mth 2 (.var 3) (.cons (.var 9) .nil)))
 .nil))))
 (.cons (.ite (.cmp .Gt (.var 1) (.con (.int 1))) (.cons (.asgI (.var 3) (.con (.int 0)) (.ix (.lst (.cons (.ix (.var 3) (.con (.int 0))) (.cons (.bin .Add (.ix (.var 3) (.con (.int 0))) (.con (.str "z"))) (.cons (.bin .Add (.ix (.var 3) (.con (.int 1))) (.con (.str "z"))) .nil)))) (.call 8 (.cons (.var 0) (.cons (.con (.int 3)) .nil)))))
 .nil) .nil)
 (.cons (.ret (.var 3))
 .nil)))))))))
def zdP:MC:=⟨zaa za0,zcB,true,fns.take 10,gls,mts,its,sxm,[]⟩
theorem zf9:FnScope zcB ["_law_deal_here", "_law_many"] (zaa za0):=⟨rfl,rfl,rfl,by decide +kernel,rfl,by decide +kernel,by decide +kernel⟩
theorem zen:mSs zaz zdP (zae za0)=true:=by decide +kernel
abbrev zaw:Stmt:=top 27
def zbr:List Str:=["_law_saying_here", "_law_found", "_law_part"]
def zbb:ISs:=(.cons (.asg 1 (.lst (.cons (.var 0) .nil)))
 (.cons (.ite (.cmp .NotEq (.ix (.var 0) (.con (.int 0))) (.con (.str "say"))) (.cons (.for (.nm 2) (.val (.sl (.var 0) (.yes (.con (.int 1))) .no)) (.cons (.asg 1 (.bin .Add (.var 1) (.lc (.nm 0) ["_law_one"] [1] (.val (.call 11 (.cons (.var 2) .nil))) (.yes (.cmp .NotIn (.var 0) (.var 1))) (.var 0))))
 .nil))
 .nil) .nil)
 (.cons (.ret (.call 5 (.cons (.var 1) .nil)))
 .nil)))
def zb9:MC:=⟨zaa zaw,zbr,true,fns.take 12,gls,mts,its,sxm,[]⟩
theorem zdn:FnScope zbr ["_law_saying_here"] (zaa zaw):=⟨rfl,rfl,rfl,by decide +kernel,rfl,by decide +kernel,by decide +kernel⟩
theorem zcY:mSs zbb zb9 (zae zaw)=true:=by decide +kernel
abbrev zbG:Stmt:=top 3
def zfp:List Str:=["doubt", "word", "saying"]
def zdz:ISs:=(.cons (.asgT (.cons (.nm 1) (.cons (.nm 2) .nil)) (.var 0))
 (.cons (.ret (.ite (.cmp .In (.var 1) (.tup (.cons (.con (.str "if")) (.cons (.con (.str "not")) .nil)))) (.ix (.var 2) (.con (.int 1))) (.con .none)))
 .nil))
def ziy:MC:=⟨zaa zbG,zfp,true,fns.take 12,gls,mts,its,sxm,[]⟩
theorem zjX:FnScope zfp ["doubt"] (zaa zbG):=⟨rfl,rfl,rfl,by decide +kernel,rfl,by decide +kernel,by decide +kernel⟩
theorem zhE:mSs zdz ziy (zae zbG)=true:=by decide +kernel
abbrev za2:Stmt:=top 30
def zcD:List Str:=["_law_found", "_law_due"]
def zbT:ISs:=(.cons (.ite (.call 4 (.cons (.var 1) (.cons (.tup (.cons (.glb 2) (.cons (.glb 1) .nil))) .nil))) (.cons (.ite (.or (.cmp .NotEq (.call 4 (.cons (.var 0) (.cons (.glb 2) .nil))) (.call 4 (.cons (.var 1) (.cons (.glb 2) .nil)))) (.cmp .NotEq (.call 4 (.cons (.var 0) (.cons (.glb 1) .nil))) (.call 4 (.cons (.var 1) (.cons (.glb 1) .nil))))) (.cons (.ret (.con (.bool false)))
 .nil) .nil)
 (.cons (.ret (.and (.cmp .Eq (.call 1 (.cons (.var 0) .nil)) (.call 1 (.cons (.var 1) .nil))) (.call 2 (.cons (.lc (.tup (.cons (.nm 0) (.cons (.nm 1) .nil))) ["_law_one", "_law_other"] [] (.blt 1 (.cons (.var 0) (.cons (.var 1) .nil))) .no (.call 13 (.cons (.var 0) (.cons (.var 1) .nil)))) .nil))))
 .nil)) .nil)
 (.cons (.ret (.and (.call 4 (.cons (.var 0) (.cons (.glb 0) .nil))) (.cmp .Eq (.var 0) (.var 1))))
 .nil))
def zdR:MC:=⟨zaa za2,zcD,true,fns.take 14,gls,mts,its,sxm,[]⟩
theorem zgb:FnScope zcD ["_law_found", "_law_due"] (zaa za2):=⟨rfl,rfl,rfl,by decide +kernel,rfl,by decide +kernel,by decide +kernel⟩
theorem zep:mSs zbT zdR (zae za2)=true:=by decide +kernel
abbrev zaX:Stmt:=top 20
def zcy:List Str:=["_law_saying_here"]
def zbQ:ISs:=(.cons (.ite (.cmp .Eq (.ix (.var 0) (.con (.int 0))) (.con (.str "and"))) (.cons (.ret (.lst (.cons (.con (.str "left")) (.cons (.con (.str "right")) .nil))))
 .nil) .nil)
 (.cons (.ite (.cmp .Eq (.ix (.var 0) (.con (.int 0))) (.con (.str "or"))) (.cons (.ret (.lst (.cons (.con (.str "which")) .nil)))
 .nil) .nil)
 (.cons (.ite (.or (.cmp .Eq (.ix (.var 0) (.con (.int 0))) (.con (.str "if"))) (.cmp .Eq (.ix (.var 0) (.con (.int 0))) (.con (.str "not")))) (.cons (.ret (.lst (.cons (.ix (.var 0) (.con (.int 0))) .nil)))
 .nil) .nil)
 (.cons (.ret (.lst .nil))
 .nil))))
def zdM:MC:=⟨zaa zaX,zcy,true,fns.take 14,gls,mts,its,sxm,[]⟩
theorem zf6:FnScope zcy ["_law_saying_here"] (zaa zaX):=⟨rfl,rfl,rfl,by decide +kernel,rfl,by decide +kernel,by decide +kernel⟩
theorem zek:mSs zbQ zdM (zae zaX)=true:=by decide +kernel
abbrev zbE:Stmt:=top 5
def zfo:List Str:=["move"]
def zdy:ISs:=(.cons (.ret (.ite (.cmp .Eq (.ix (.var 0) (.con (.int 0))) (.con (.str "answer"))) (.ix (.var 0) (.con (.int 2))) (.call 12 (.cons (.sl (.var 0) (.yes (.con (.int 1))) .no) .nil))))
 .nil)
def ziw:MC:=⟨zaa zbE,zfo,true,fns.take 15,gls,mts,its,sxm,[]⟩
theorem zjW:FnScope zfo ["move"] (zaa zbE):=⟨rfl,rfl,rfl,by decide +kernel,rfl,by decide +kernel,by decide +kernel⟩
theorem zhD:mSs zdy ziw (zae zbE)=true:=by decide +kernel
abbrev zaO:Stmt:=top 1
def zb5:List Str:=["things", "once", "thing"]
def zbx:ISs:=(.cons (.asg 1 (.lst .nil))
 (.cons (.for (.nm 2) (.val (.call 5 (.cons (.var 0) .nil))) (.cons (.ite (.or (.not (.var 1)) (.cmp .NotEq (.ix (.var 1) (.neg (.con (.int 1)))) (.var 2))) (.cons (.ex (.mth 2 (.var 1) (.cons (.var 2) .nil)))
 .nil) .nil)
 .nil))
 (.cons (.ret (.var 1))
 .nil)))
def zdl:MC:=⟨zaa zaO,zb5,true,fns.take 16,gls,mts,its,sxm,[]⟩
theorem zff:FnScope zb5 ["things"] (zaa zaO):=⟨rfl,rfl,rfl,by decide +kernel,rfl,by decide +kernel,by decide +kernel⟩
theorem zdV:mSs zbx zdl (zae zaO)=true:=by decide +kernel
abbrev zbH:Stmt:=top 7
def zfs:List Str:=["move", "reply"]
def zdA:ISs:=(.cons (.ret (.ite (.cmp .Eq (.ix (.var 1) (.con (.int 0))) (.con (.str "doubt"))) (.tup (.cons (.tup (.cons (.ix (.var 1) (.con (.int 1))) (.cons (.call 15 (.cons (.var 0) .nil)) .nil))) .nil)) (.tup .nil)))
 .nil)
def ziA:MC:=⟨zaa zbH,zfs,true,fns.take 17,gls,mts,its,sxm,[]⟩
theorem zjZ:FnScope zfs ["move", "reply"] (zaa zbH):=⟨rfl,rfl,rfl,by decide +kernel,rfl,by decide +kernel,by decide +kernel⟩
theorem zhF:mSs zdA ziA (zae zbH)=true:=by decide +kernel
abbrev zaF:Stmt:=top 21
def zbK:List Str:=["_law_doubt", "_law_word", "_law_saying_here", "_law_some_here"]
def zao:ISs:=(.cons (.asgT (.cons (.nm 1) (.cons (.nm 2) .nil)) (.var 0))
 (.cons (.ite (.cmp .Eq (.var 1) (.con (.str "begin"))) (.cons (.ret (.lst (.cons (.var 2) .nil)))
 .nil) .nil)
 (.cons (.ite (.cmp .Eq (.var 1) (.con (.str "left"))) (.cons (.ret (.lst (.cons (.ix (.var 2) (.con (.int 1))) .nil)))
 .nil) .nil)
 (.cons (.ite (.or (.cmp .Eq (.var 1) (.con (.str "right"))) (.cmp .Eq (.var 1) (.con (.str "if")))) (.cons (.ret (.lst (.cons (.ix (.var 2) (.con (.int 2))) .nil)))
 .nil) .nil)
 (.cons (.ite (.cmp .Eq (.var 1) (.con (.str "which"))) (.cons (.asg 3 (.call 5 (.cons (.lst (.cons (.ix (.var 2) (.con (.int 1))) (.cons (.ix (.var 2) (.con (.int 2))) .nil))) .nil)))
 (.cons (.ret (.sl (.var 3) .no (.yes (.bin .Add (.con (.int 1)) (.call 6 (.cons (.cmp .NotEq (.ix (.var 3) (.con (.int 0))) (.ix (.var 3) (.con (.int 1)))) .nil))))))
 .nil)) .nil)
 (.cons (.ret (.lst .nil))
 .nil))))))
def zcW:MC:=⟨zaa zaF,zbK,true,fns.take 18,gls,mts,its,sxm,[]⟩
theorem zee:FnScope zbK ["_law_doubt"] (zaa zaF):=⟨rfl,rfl,rfl,by decide +kernel,rfl,by decide +kernel,by decide +kernel⟩
theorem zdr:mSs zao zcW (zae zaF)=true:=by decide +kernel
abbrev zbi:Stmt:=zoB (top 13) 0
def zdc:List Str:=["self", "answers", "again", "doubts", "speaks", "other"]
def zcp:ISs:=(.cons (.asgA (.var 0) "answers" (.var 1))
 (.cons (.asgA (.var 0) "again" (.var 2))
 (.cons (.asgA (.var 0) "doubts" (.var 3))
 (.cons (.asgA (.var 0) "speaks" (.var 4))
 (.cons (.asgA (.var 0) "other" (.var 5))
 .nil)))))
def zeN:MC:=⟨zaa zbi,zdc,true,fns.take 20,gls,mts,its,sxm,[]⟩
theorem zhq:FnScope zdc ["self", "answers", "again", "doubts", "speaks", "other"] (zaa zbi):=⟨rfl,rfl,rfl,by decide +kernel,rfl,by decide +kernel,by decide +kernel⟩
theorem zfA:mSs zcp zeN (zae zbi)=true:=by decide +kernel
abbrev zbh:Stmt:=top 19
def zdb:List Str:=["_law_deal_here", "_law_way", "_law_pick", "_law_some_here"]
def zco:ISs:=(.cons (.asg 1 (.call 8 (.cons (.var 0) (.cons (.con (.int 4)) .nil))))
 (.cons (.ite (.cmp .Eq (.var 1) (.con (.int 0))) (.cons (.ret (.call 20 (.cons (.con (.str "last")) (.cons (.con (.str "once")) (.cons (.con (.str "often")) (.cons (.con (.str "any")) .nil))))))
 .nil) .nil)
 (.cons (.ite (.cmp .Eq (.var 1) (.con (.int 1))) (.cons (.ret (.call 20 (.cons (.con (.str "any")) (.cons (.con (.str "often")) (.cons (.con (.str "often")) (.cons (.con (.str "any")) .nil))))))
 .nil) .nil)
 (.cons (.asg 2 (.lc (.nm 0) ["_law_k"] [0] (.blt 0 (.cons (.con (.int 4)) .nil)) .no (.call 8 (.cons (.var 1) (.cons (.con (.int 2)) .nil)))))
 (.cons (.asg 3 (.lst (.cons (.ix (.lst (.cons (.con (.str "last")) (.cons (.con (.str "any")) .nil))) (.ix (.var 2) (.con (.int 0)))) (.cons (.ix (.lst (.cons (.con (.str "once")) (.cons (.con (.str "often")) .nil))) (.ix (.var 2) (.con (.int 1)))) (.cons (.ix (.lst (.cons (.con (.str "once")) (.cons (.con (.str "often")) .nil))) (.ix (.var 2) (.con (.int 2)))) (.cons (.ix (.lst (.cons (.con (.str "last")) (.cons (.con (.str "any")) .nil))) (.ix (.var 2) (.con (.int 3)))) .nil))))))
 (.cons (.ret (.call 20 (.cons (.ix (.var 3) (.con (.int 0))) (.cons (.ix (.var 3) (.con (.int 1))) (.cons (.ix (.var 3) (.con (.int 2))) (.cons (.ix (.var 3) (.con (.int 3))) .nil))))))
 .nil))))))
def zeM:MC:=⟨zaa zbh,zdb,true,fns.take 21,gls,mts,its,sxm,[]⟩
theorem zhp:FnScope zdb ["_law_deal_here"] (zaa zbh):=⟨rfl,rfl,rfl,by decide +kernel,rfl,by decide +kernel,by decide +kernel⟩
theorem zfz:mSs zco zeM (zae zbh)=true:=by decide +kernel
abbrev zcv:Stmt:=top 11
def zhz:List Str:=["things", "more"]
def zfJ:ISs:=(.cons (.ret (.call 19 (.cons (.call 16 (.cons (.bin .Add (.var 0) (.var 1)) .nil)) .nil)))
 .nil)
def zko:MC:=⟨zaa zcv,zhz,true,fns.take 22,gls,mts,its,sxm,[]⟩
theorem zlB:FnScope zhz ["things", "more"] (zaa zcv):=⟨rfl,rfl,rfl,by decide +kernel,rfl,by decide +kernel,by decide +kernel⟩
theorem zjg:mSs zfJ zko (zae zcv)=true:=by decide +kernel
abbrev zaY:Stmt:=top 26
def zcz:List Str:=["_law_saying_here"]
def zbR:ISs:=(.cons (.ret (.tup (.cons (.tup .nil) (.cons (.tup (.cons (.tup (.cons (.con (.str "begin")) (.cons (.var 0) .nil))) .nil)) (.cons (.tup .nil) (.cons (.tup .nil) .nil))))))
 .nil)
def zdN:MC:=⟨zaa zaY,zcz,true,fns.take 23,gls,mts,its,sxm,[]⟩
theorem zf7:FnScope zcz ["_law_saying_here"] (zaa zaY):=⟨rfl,rfl,rfl,by decide +kernel,rfl,by decide +kernel,by decide +kernel⟩
theorem zel:mSs zbR zdN (zae zaY)=true:=by decide +kernel
abbrev zbd:Stmt:=top 28
def zc9:List Str:=["_law_deal_here", "_law_things"]
def zcm:ISs:=(.cons (.ret (.call 19 (.cons (.call 5 (.cons (.lc (.nm 0) ["_law_thing"] [0] (.val (.call 5 (.cons (.var 1) .nil))) (.yes (.cmp .Eq (.call 8 (.cons (.var 1) (.cons (.con (.int 2)) .nil))) (.con (.int 1)))) (.var 0)) .nil)) .nil)))
 .nil)
def zeI:MC:=⟨zaa zbd,zc9,true,fns.take 24,gls,mts,its,sxm,[]⟩
theorem zhl:FnScope zc9 ["_law_deal_here", "_law_things"] (zaa zbd):=⟨rfl,rfl,rfl,by decide +kernel,rfl,by decide +kernel,by decide +kernel⟩
theorem zfv:mSs zcm zeI (zae zbd)=true:=by decide +kernel
abbrev zay:Stmt:=top 29
def zbz:List Str:=["_law_deal_here", "_law_book_here", "_law_saying_here", "_law_some_here", "_law_asked", "_law_part", "_law_said", "_law_fresh", "_law_used", "_law_opened"]
def zaj:ISs:=(.cons (.asg 3 (.call 11 (.cons (.var 2) .nil)))
 (.cons (.asg 4 (.lst (.cons (.tup (.cons (.con (.str "begin")) (.cons (.var 2) .nil))) .nil)))
 (.cons (.for (.nm 5) (.val (.var 3)) (.cons (.asg 4 (.bin .Add (.var 4) (.lc (.nm 0) ["_law_word"] [5] (.val (.call 14 (.cons (.var 5) .nil))) .no (.tup (.cons (.var 0) (.cons (.var 1) .nil))))))
 .nil))
 (.cons (.asg 6 (.call 24 (.cons (.var 0) (.cons (.var 3) .nil))))
 (.cons (.asg 7 (.tup .nil))
 (.cons (.ite (.and (.cmp .Eq (.att (.var 1) "speaks") (.con (.str "last"))) (.cmp .Gt (.call 1 (.cons (.var 6) .nil)) (.con (.int 0)))) (.cons (.asg 7 (.bin .Mult (.tup (.cons (.ix (.var 6) (.call 8 (.cons (.var 0) (.cons (.call 1 (.cons (.var 6) .nil)) .nil)))) .nil)) (.call 8 (.cons (.var 0) (.cons (.con (.int 2)) .nil)))))
 (.cons (.ite (.cmp .Eq (.call 8 (.cons (.var 0) (.cons (.con (.int 3)) .nil))) (.con (.int 0))) (.cons (.asg 7 (.call 24 (.cons (.var 0) (.cons (.var 6) .nil))))
 .nil) .nil)
 .nil)) .nil)
 (.cons (.asg 8 (.call 24 (.cons (.var 0) (.cons (.sl (.var 4) (.yes (.con (.int 1))) .no) .nil))))
 (.cons (.ite (.cmp .Eq (.att (.var 1) "doubts") (.con (.str "often"))) (.cons (.asg 8 (.tup .nil))
 .nil) .nil)
 (.cons (.asg 9 (.call 24 (.cons (.var 0) (.cons (.var 4) .nil))))
 (.cons (.ite (.cmp .Eq (.call 8 (.cons (.var 0) (.cons (.con (.int 2)) .nil))) (.con (.int 0))) (.cons (.asg 9 (.sl (.var 9) .no (.yes (.con (.int 1)))))
 .nil) .nil)
 (.cons (.ret (.tup (.cons (.var 6) (.cons (.var 9) (.cons (.var 8) (.cons (.var 7) .nil))))))
 .nil)))))))))))
def zcs:MC:=⟨zaa zay,zbz,true,fns.take 25,gls,mts,its,sxm,[]⟩
theorem zdE:FnScope zbz ["_law_deal_here", "_law_book_here", "_law_saying_here"] (zaa zay):=⟨rfl,rfl,rfl,by decide +kernel,rfl,by decide +kernel,by decide +kernel⟩
theorem zdf:mSs zaj zcs (zae zay)=true:=by decide +kernel
abbrev zbe:Stmt:=top 22
def zda:List Str:=["_law_move"]
def zcn:ISs:=(.cons (.ite (.cmp .Eq (.ix (.var 0) (.con (.int 0))) (.con (.str "answer"))) (.cons (.ret (.ix (.var 0) (.con (.int 2))))
 .nil) .nil)
 (.cons (.ite (.or (.cmp .Eq (.ix (.var 0) (.con (.int 1))) (.con (.str "if"))) (.cmp .Eq (.ix (.var 0) (.con (.int 1))) (.con (.str "not")))) (.cons (.ret (.ix (.ix (.var 0) (.con (.int 2))) (.con (.int 1))))
 .nil) .nil)
 (.cons (.ret (.con .none))
 .nil)))
def zeJ:MC:=⟨zaa zbe,zda,true,fns.take 26,gls,mts,its,sxm,[]⟩
theorem zhm:FnScope zda ["_law_move"] (zaa zbe):=⟨rfl,rfl,rfl,by decide +kernel,rfl,by decide +kernel,by decide +kernel⟩
theorem zfw:mSs zcn zeJ (zae zbe)=true:=by decide +kernel
abbrev za1:Stmt:=top 23
def zcC:List Str:=["_law_book_here", "_law_standing_here", "_law_said", "_law_opened", "_law_used", "_law_fresh", "_law_found", "_law_doubt", "_law_answer", "_law_saying_here", "_law_word", "_law_good", "_law_move", "_law_says_here"]
def zan:ISs:=(.cons (.asgT (.cons (.nm 2) (.cons (.nm 3) (.cons (.nm 4) (.cons (.nm 5) .nil)))) (.var 1))
 (.cons (.asg 6 (.lst .nil))
 (.cons (.for (.nm 7) (.val (.var 3)) (.cons (.for (.nm 8) (.val (.call 18 (.cons (.var 7) .nil))) (.cons (.ex (.mth 2 (.var 6) (.cons (.tup (.cons (.con (.str "answer")) (.cons (.var 7) (.cons (.var 8) .nil)))) .nil)))
 .nil))
 .nil))
 (.cons (.for (.nm 9) (.val (.ix (.lst (.cons (.var 2) (.cons (.var 5) .nil))) (.call 6 (.cons (.cmp .Eq (.att (.var 0) "speaks") (.con (.str "last"))) .nil)))) (.cons (.for (.nm 10) (.val (.call 14 (.cons (.var 9) .nil))) (.cons (.ite (.or (.cmp .Eq (.att (.var 0) "doubts") (.con (.str "often"))) (.cmp .NotIn (.tup (.cons (.var 10) (.cons (.var 9) .nil))) (.var 4))) (.cons (.ex (.mth 2 (.var 6) (.cons (.tup (.cons (.con (.str "doubt")) (.cons (.var 10) (.cons (.var 9) .nil)))) .nil)))
 .nil) .nil)
 .nil))
 .nil))
 (.cons (.asg 11 (.lst .nil))
 (.cons (.for (.nm 12) (.val (.var 6)) (.cons (.asg 13 (.call 26 (.cons (.var 12) .nil)))
 (.cons (.ite (.or (.cmp .Is (.var 13) (.con .none)) (.or (.cmp .NotEq (.ix (.var 13) (.con (.int 0))) (.con (.str "say"))) (.cmp .In (.var 13) (.var 2)))) (.cons (.ex (.mth 2 (.var 11) (.cons (.var 12) .nil)))
 .nil) .nil)
 .nil)))
 (.cons (.ret (.call 5 (.cons (.var 11) .nil)))
 .nil)))))))
def zdQ:MC:=⟨zaa za1,zcC,true,fns.take 27,gls,mts,its,sxm,[]⟩
theorem zga:FnScope zcC ["_law_book_here", "_law_standing_here"] (zaa za1):=⟨rfl,rfl,rfl,by decide +kernel,rfl,by decide +kernel,by decide +kernel⟩
theorem zeo:mSs zan zdQ (zae za1)=true:=by decide +kernel
abbrev zbp:Stmt:=top 8
def zdI:List Str:=["move", "reply", "saying"]
def zc3:ISs:=(.cons (.ite (.cmp .Eq (.ix (.var 1) (.con (.int 0))) (.con (.str "answer"))) (.cons (.ret (.tup (.cons (.ix (.var 1) (.con (.int 1))) .nil)))
 .nil) .nil)
 (.cons (.asg 2 (.call 12 (.cons (.tup (.cons (.ix (.var 1) (.con (.int 1))) (.cons (.call 15 (.cons (.var 0) .nil)) .nil))) .nil)))
 (.cons (.ret (.ite (.cmp .Is (.var 2) (.con .none)) (.tup .nil) (.tup (.cons (.var 2) .nil))))
 .nil)))
def zgE:MC:=⟨zaa zbp,zdI,true,fns.take 28,gls,mts,its,sxm,[]⟩
theorem ziX:FnScope zdI ["move", "reply"] (zaa zbp):=⟨rfl,rfl,rfl,by decide +kernel,rfl,by decide +kernel,by decide +kernel⟩
theorem zgK:mSs zc3 zgE (zae zbp)=true:=by decide +kernel
abbrev zaW:Stmt:=top 9
def zcx:List Str:=["book", "unanswered", "move", "made"]
def za4:ISs:=(.cons (.ite (.cmp .Eq (.att (.var 0) "speaks") (.con (.str "last"))) (.cons (.ret (.var 3))
 .nil) .nil)
 (.cons (.ite (.cmp .Eq (.att (.var 0) "answers") (.con (.str "last"))) (.cons (.ret (.ite (.var 3) (.var 3) (.var 1)))
 .nil) .nil)
 (.cons (.ite (.and (.cmp .Eq (.ix (.var 2) (.con (.int 0))) (.con (.str "answer"))) (.cmp .Eq (.att (.var 0) "again") (.con (.str "once")))) (.cons (.asg 1 (.call 19 (.cons (.lc (.nm 0) ["doubt"] [2] (.val (.var 1)) (.yes (.cmp .NotEq (.var 0) (.ix (.var 1) (.con (.int 1))))) (.var 0)) .nil)))
 .nil) .nil)
 (.cons (.ret (.call 22 (.cons (.var 1) (.cons (.var 3) .nil))))
 .nil))))
def zdL:MC:=⟨zaa zaW,zcx,true,fns.take 29,gls,mts,its,sxm,[]⟩
theorem zf5:FnScope zcx ["book", "unanswered", "move", "made"] (zaa zaW):=⟨rfl,rfl,rfl,by decide +kernel,rfl,by decide +kernel,by decide +kernel⟩
theorem zej:mSs za4 zdL (zae zaW)=true:=by decide +kernel
abbrev zaV:Stmt:=top 10
def zcw:List Str:=["book", "used", "move"]
def zbN:ISs:=(.cons (.ite (.cmp .NotEq (.att (.var 0) "doubts") (.con (.str "once"))) (.cons (.ret (.tup .nil))
 .nil) .nil)
 (.cons (.ret (.ite (.cmp .Eq (.ix (.var 2) (.con (.int 0))) (.con (.str "doubt"))) (.call 22 (.cons (.var 1) (.cons (.tup (.cons (.sl (.var 2) (.yes (.con (.int 1))) .no) .nil)) .nil))) (.var 1)))
 .nil))
def zdK:MC:=⟨zaa zaV,zcw,true,fns.take 30,gls,mts,its,sxm,[]⟩
theorem zf4:FnScope zcw ["book", "used", "move"] (zaa zaV):=⟨rfl,rfl,rfl,by decide +kernel,rfl,by decide +kernel,by decide +kernel⟩
theorem zei:mSs zbN zdK (zae zaV)=true:=by decide +kernel
abbrev zdF:Stmt:=top 6
def zkm:List Str:=["book", "standing", "move", "reply", "said", "unanswered", "used", "made", "heard"]
def ziQ:ISs:=(.cons (.asgT (.cons (.nm 4) (.cons (.nm 5) (.cons (.nm 6) .nil))) (.sl (.var 1) .no (.yes (.con (.int 3)))))
 (.cons (.asg 7 (.call 17 (.cons (.var 2) (.cons (.var 3) .nil))))
 (.cons (.asg 8 (.call 28 (.cons (.var 2) (.cons (.var 3) .nil))))
 (.cons (.ret (.tup (.cons (.call 22 (.cons (.var 4) (.cons (.var 8) .nil))) (.cons (.call 29 (.cons (.var 0) (.cons (.var 5) (.cons (.var 2) (.cons (.var 7) .nil))))) (.cons (.call 30 (.cons (.var 0) (.cons (.var 6) (.cons (.var 2) .nil)))) (.cons (.ite (.cmp .Eq (.att (.var 0) "speaks") (.con (.str "last"))) (.var 8) (.tup .nil)) .nil))))))
 .nil))))
def zng:MC:=⟨zaa zdF,zkm,true,fns.take 31,gls,mts,its,sxm,[]⟩
theorem znL:FnScope zkm ["book", "standing", "move", "reply"] (zaa zdF):=⟨rfl,rfl,rfl,by decide +kernel,rfl,by decide +kernel,by decide +kernel⟩
theorem zkt:mSs ziQ zng (zae zdF)=true:=by decide +kernel
abbrev zaE:Stmt:=top 24
def zbJ:List Str:=["_law_move", "_law_says_here", "_law_found"]
def zaI:ISs:=(.cons (.asg 1 (.call 26 (.cons (.var 0) .nil)))
 (.cons (.asg 2 (.lst .nil))
 (.cons (.ite (.cmp .IsNot (.var 1) (.con .none)) (.cons (.asg 2 (.lc (.nm 0) ["_law_word"] [] (.val (.call 14 (.cons (.var 1) .nil))) .no (.tup (.cons (.con (.str "doubt")) (.cons (.var 0) .nil)))))
 .nil) .nil)
 (.cons (.ite (.cmp .Eq (.ix (.var 0) (.con (.int 0))) (.con (.str "doubt"))) (.cons (.asg 2 (.bin .Add (.var 2) (.lc (.nm 0) ["_law_answer"] [] (.val (.call 18 (.cons (.tup (.cons (.ix (.var 0) (.con (.int 1))) (.cons (.ix (.var 0) (.con (.int 2))) .nil))) .nil))) .no (.tup (.cons (.con (.str "answer")) (.cons (.var 0) .nil))))))
 .nil) .nil)
 (.cons (.ret (.call 5 (.cons (.var 2) .nil)))
 .nil)))))
def zcV:MC:=⟨zaa zaE,zbJ,true,fns.take 32,gls,mts,its,sxm,[]⟩
theorem zed:FnScope zbJ ["_law_move"] (zaa zaE):=⟨rfl,rfl,rfl,by decide +kernel,rfl,by decide +kernel,by decide +kernel⟩
theorem zdq:mSs zaI zcV (zae zaE)=true:=by decide +kernel
abbrev za3:Stmt:=top 25
def zcE:List Str:=["_law_book_here", "_law_standing_here", "_law_move", "_law_reply", "_law_said", "_law_opened", "_law_used", "_law_fresh", "_law_heard", "_law_made", "_law_left"]
def zag:ISs:=(.cons (.asgT (.cons (.nm 4) (.cons (.nm 5) (.cons (.nm 6) (.cons (.nm 7) .nil)))) (.var 1))
 (.cons (.asg 8 (.lst .nil))
 (.cons (.asg 9 (.lst .nil))
 (.cons (.ite (.cmp .Eq (.ix (.var 3) (.con (.int 0))) (.con (.str "answer"))) (.cons (.asg 8 (.lst (.cons (.ix (.var 3) (.con (.int 1))) .nil)))
 .nil) (.cons (.asg 9 (.lst (.cons (.tup (.cons (.ix (.var 3) (.con (.int 1))) (.cons (.call 26 (.cons (.var 2) .nil)) .nil))) .nil)))
 (.cons (.ite (.or (.cmp .Eq (.ix (.var 3) (.con (.int 1))) (.con (.str "if"))) (.cmp .Eq (.ix (.var 3) (.con (.int 1))) (.con (.str "not")))) (.cons (.asg 8 (.lst (.cons (.ix (.call 26 (.cons (.var 2) .nil)) (.con (.int 1))) .nil)))
 .nil) .nil)
 .nil)))
 (.cons (.asg 10 (.call 3 (.cons (.var 5) .nil)))
 (.cons (.ite (.and (.cmp .Eq (.ix (.var 2) (.con (.int 0))) (.con (.str "answer"))) (.and (.cmp .Eq (.att (.var 0) "again") (.con (.str "once"))) (.cmp .In (.ix (.var 2) (.con (.int 1))) (.var 10)))) (.cons (.ex (.mth 3 (.var 10) (.cons (.ix (.var 2) (.con (.int 1))) .nil)))
 .nil) .nil)
 (.cons (.ite (.or (.cmp .Eq (.att (.var 0) "speaks") (.con (.str "last"))) (.and (.cmp .Eq (.att (.var 0) "answers") (.con (.str "last"))) (.cmp .NotEq (.var 9) (.lst .nil)))) (.cons (.asg 10 (.lst .nil))
 .nil) (.cons (.ite (.cmp .Eq (.att (.var 0) "answers") (.con (.str "last"))) (.cons (.asg 10 (.call 3 (.cons (.var 5) .nil)))
 .nil) .nil)
 .nil))
 (.cons (.ite (.and (.cmp .Eq (.att (.var 0) "doubts") (.con (.str "once"))) (.cmp .Eq (.ix (.var 2) (.con (.int 0))) (.con (.str "doubt")))) (.cons (.asg 6 (.call 19 (.cons (.call 5 (.cons (.bin .Add (.lc (.nm 0) ["_law_one"] [2] (.val (.var 6)) (.yes (.cmp .NotEq (.var 0) (.sl (.var 1) (.yes (.con (.int 1))) .no))) (.var 0)) (.lst (.cons (.sl (.var 2) (.yes (.con (.int 1))) .no) .nil))) .nil)) .nil)))
 .nil) .nil)
 (.cons (.asg 7 (.call 19 (.cons (.bin .Mult (.var 8) (.call 6 (.cons (.cmp .Eq (.att (.var 0) "speaks") (.con (.str "last"))) .nil))) .nil)))
 (.cons (.asg 4 (.call 19 (.cons (.call 5 (.cons (.bin .Add (.lc (.nm 0) ["_law_one"] [8] (.val (.var 4)) (.yes (.cmp .NotIn (.var 0) (.var 1))) (.var 0)) (.var 8)) .nil)) .nil)))
 (.cons (.ret (.tup (.cons (.var 4) (.cons (.call 19 (.cons (.call 5 (.cons (.bin .Add (.lc (.nm 0) ["_law_one"] [9] (.val (.var 10)) (.yes (.cmp .NotIn (.var 0) (.var 1))) (.var 0)) (.var 9)) .nil)) .nil)) (.cons (.var 6) (.cons (.var 7) .nil))))))
 .nil)))))))))))
def zdS:MC:=⟨zaa za3,zcE,true,fns.take 33,gls,mts,its,sxm,[]⟩
theorem zgc:FnScope zcE ["_law_book_here", "_law_standing_here", "_law_move", "_law_reply"] (zaa za3):=⟨rfl,rfl,rfl,by decide +kernel,rfl,by decide +kernel,by decide +kernel⟩
theorem zeq:mSs zag zdS (zae za3)=true:=by decide +kernel
abbrev zaZ:Stmt:=top 31
def zcA:List Str:=["_law_book_here", "_law_standing_here", "_law_turn", "_law_move", "_law_reply", "_law_found"]
def zbS:ISs:=(.cons (.for (.nm 2) (.blt 0 (.cons (.con (.int 2)) .nil)) (.cons (.for (.nm 3) (.val (.call 27 (.cons (.var 0) (.cons (.var 1) .nil)))) (.cons (.for (.nm 4) (.val (.call 32 (.cons (.var 3) .nil))) (.cons (.asg 5 (.call 31 (.cons (.var 0) (.cons (.var 1) (.cons (.var 3) (.cons (.var 4) .nil))))))
 (.cons (.ite (.not (.call 13 (.cons (.var 5) (.cons (.call 33 (.cons (.var 0) (.cons (.var 1) (.cons (.var 3) (.cons (.var 4) .nil))))) .nil)))) (.cons (.ret (.con (.bool false)))
 .nil) .nil)
 .nil)))
 .nil))
 .nil))
 (.cons (.ret (.con (.bool true)))
 .nil))
def zdO:MC:=⟨zaa zaZ,zcA,true,fns.take 34,gls,mts,its,sxm,[]⟩
theorem zf8:FnScope zcA ["_law_book_here", "_law_standing_here"] (zaa zaZ):=⟨rfl,rfl,rfl,by decide +kernel,rfl,by decide +kernel,by decide +kernel⟩
theorem zem:mSs zbS zdO (zae zaZ)=true:=by decide +kernel
abbrev slaw:Stmt:=top 32
def nlaw:List Str:=["_law_script", "_law_deal_here", "_law_saying_here", "_law_turn", "_law_book_here"]
def blaw:ISs:=(.cons (.asg 1 (.call 7 (.cons (.var 0) (.cons (.con (.int 0)) .nil))))
 (.cons (.asg 2 (.call 9 (.cons (.var 1) (.cons (.call 10 (.cons (.var 1) (.cons (.bin .Add (.con (.int 1)) (.call 8 (.cons (.var 1) (.cons (.con (.int 4)) .nil)))) .nil))) (.cons (.bin .Add (.con (.int 1)) (.call 8 (.cons (.var 1) (.cons (.con (.int 8)) .nil)))) .nil)))))
 (.cons (.for (.nm 3) (.blt 0 (.cons (.con (.int 3)) .nil)) (.cons (.asg 4 (.call 21 (.cons (.var 1) .nil)))
 (.cons (.ite (.or (.not (.call 34 (.cons (.var 4) (.cons (.call 25 (.cons (.var 1) (.cons (.var 4) (.cons (.var 2) .nil)))) .nil)))) (.not (.call 34 (.cons (.var 4) (.cons (.call 23 (.cons (.var 2) .nil)) .nil))))) (.cons (.ret (.con (.bool false)))
 .nil) .nil)
 .nil)))
 (.cons (.ret (.con (.bool true)))
 .nil))))
def mlaw:MC:=⟨zaa slaw,nlaw,true,fns.take 35,gls,mts,its,sxm,[]⟩
theorem sclaw:FnScope nlaw ["_law_script"] (zaa slaw):=⟨rfl,rfl,rfl,by decide +kernel,rfl,by decide +kernel,by decide +kernel⟩
theorem zof:mSs blaw mlaw (zae slaw)=true:=by decide +kernel
end K23
set_option Elab.async false
set_option linter.all false
set_option maxRecDepth 100000
set_option maxHeartbeats 8000000
namespace K23
open PySem PySem.Spec PyProof.Rows L2 L3
inductive Sy where
 |say (x:Str) | not (a:Sy) | and (a b:Sy) | or (a b:Sy) | ite (a b:Sy)
def Sy.w:Sy->W
 | .say x=>.tup [.str "say", .str x]
 | .not a=>.tup [.str "not", a.w]
 | .and a b=>.tup [.str "and", a.w,b.w]
 | .or a b=>.tup [.str "or", a.w,b.w]
 | .ite a b=>.tup [.str "if", a.w,b.w]
def Sy.size:Sy->Nat
 | .say _=>1
 | .not a=>a.size+1
 | .and a b=>a.size+b.size+1
 | .or a b=>a.size+b.size+1
 | .ite a b=>a.size+b.size+1
theorem Sy.pos:∀ t:Sy,1<=t.size
 | .say _=>Nat.le_refl _
 | .not a=>Nat.le_add_left _ _
 | .and a b=>Nat.le_add_left _ _
 | .or a b=>Nat.le_add_left _ _
 | .ite a b=>Nat.le_add_left _ _
theorem Sy.pur:∀ t:Sy,L3.pur t.w=true
 | .say _=>by simp [Sy.w,L3.pur,purs]
 | .not a=>by simp [Sy.w,L3.pur,purs,Sy.pur a]
 | .and a b=>by simp [Sy.w,L3.pur,purs,Sy.pur a,Sy.pur b]
 | .or a b=>by simp [Sy.w,L3.pur,purs,Sy.pur a,Sy.pur b]
 | .ite a b=>by simp [Sy.w,L3.pur,purs,Sy.pur a,Sy.pur b]
theorem dep1 {x m:Nat} (h:x<=m):max 0 (max x 0)+1<=m+1:=Nat.succ_le_succ (Nat.max_le.mpr ⟨Nat.zero_le _,Nat.max_le.mpr ⟨h,Nat.zero_le _⟩⟩)
theorem dep2 {x y m n:Nat} (h:x<=m) (h':y<=n):max 0 (max x (max y 0))+1<=m+n+1:=Nat.succ_le_succ (Nat.max_le.mpr ⟨Nat.zero_le _,Nat.max_le.mpr ⟨Nat.le_trans h (Nat.le_add_right _ _),Nat.max_le.mpr ⟨Nat.le_trans h' (Nat.le_add_left _ _),Nat.zero_le _⟩⟩⟩)
theorem Sy.dep:∀ t:Sy,L3.dep t.w<=t.size
 | .say _=>dep1 (Nat.zero_le 0)
 | .not a=>dep1 (Sy.dep a)
 | .and a b=>dep2 (Sy.dep a) (Sy.dep b)
 | .or a b=>dep2 (Sy.dep a) (Sy.dep b)
 | .ite a b=>dep2 (Sy.dep a) (Sy.dep b)
theorem zeB:(("say" : Str) == "not")=false:=by decide +kernel
theorem zeC:(("say" : Str) == "and")=false:=by decide +kernel
theorem zgs:(("say" : Str) == "or")=false:=by decide +kernel
theorem zgt:(("say" : Str) == "if")=false:=by decide +kernel
theorem zch:(("not" : Str) == "say")=false:=by decide +kernel
theorem zeD:(("not" : Str) == "and")=false:=by decide +kernel
theorem zgw:(("not" : Str) == "or")=false:=by decide +kernel
theorem zgx:(("not" : Str) == "if")=false:=by decide +kernel
theorem zci:(("and" : Str) == "say")=false:=by decide +kernel
theorem zeE:(("and" : Str) == "not")=false:=by decide +kernel
theorem zgA:(("and" : Str) == "or")=false:=by decide +kernel
theorem zgB:(("and" : Str) == "if")=false:=by decide +kernel
theorem zcT:(("or" : Str) == "say")=false:=by decide +kernel
theorem zgu:(("or" : Str) == "not")=false:=by decide +kernel
theorem zgv:(("or" : Str) == "and")=false:=by decide +kernel
theorem ziu:(("or" : Str) == "if")=false:=by decide +kernel
theorem zcU:(("if" : Str) == "say")=false:=by decide +kernel
theorem zgy:(("if" : Str) == "not")=false:=by decide +kernel
theorem zgz:(("if" : Str) == "and")=false:=by decide +kernel
theorem ziv:(("if" : Str) == "or")=false:=by decide +kernel
theorem ltS1 {a b:W} (h:(ltW a b).isSome=true):(ltWs [a] [b]).isSome=true:=by
 simp only [ltWs]
 split
 .rfl
 .exact h
theorem ltS2 {a b c d:W} (h:(ltW a b).isSome=true) (h':(ltW c d).isSome=true):(ltWs [a,c] [b,d]).isSome=true:=by
 rw [ltWs]
 split
 .exact ltS1 h'
 .exact h
theorem zbA {x:Str} {l l':List W} (h:(ltWs l l').isSome=true):(ltW (.tup (.str x::l)) (.tup (.str x::l'))).isSome=true:=by
 rw [ltW,ltWs,if_pos (by simp [eqW])]
 exact h
theorem zar {x y:Str} {l l':List W} (h:(x==y)=false):(ltW (.tup (.str x::l)) (.tup (.str y::l'))).isSome=true:=by
 rw [ltW,ltWs,if_neg (by simp [eqW,h]),ltW]
 rfl
theorem Sy.lt:∀ a b:Sy,(ltW a.w b.w).isSome=true
 | .say x,.say y=>zbA (ltS1 (by rw [ltW];rfl))
 | .not a,.not b=>zbA (ltS1 (Sy.lt a b))
 | .and a c,.and b d=>zbA (ltS2 (Sy.lt a b) (Sy.lt c d))
 | .or a c,.or b d=>zbA (ltS2 (Sy.lt a b) (Sy.lt c d))
 | .ite a c,.ite b d=>zbA (ltS2 (Sy.lt a b) (Sy.lt c d))
 | .say _,.not _=>zar zeB
 | .say _,.and _ _=>zar zeC
 | .say _,.or _ _=>zar zgs
 | .say _,.ite _ _=>zar zgt
 | .not _,.say _=>zar zch
 | .not _,.and _ _=>zar zeD
 | .not _,.or _ _=>zar zgw
 | .not _,.ite _ _=>zar zgx
 | .and _ _,.say _=>zar zci
 | .and _ _,.not _=>zar zeE
 | .and _ _,.or _ _=>zar zgA
 | .and _ _,.ite _ _=>zar zgB
 | .or _ _,.say _=>zar zcT
 | .or _ _,.not _=>zar zgu
 | .or _ _,.and _ _=>zar zgv
 | .or _ _,.ite _ _=>zar ziu
 | .ite _ _,.say _=>zar zcU
 | .ite _ _,.not _=>zar zgy
 | .ite _ _,.and _ _=>zar zgz
 | .ite _ _,.or _ _=>zar ziv
theorem Sy.hd (t:Sy):hdT t.w=some "str" := by cases t <;> rfl
theorem zdu:∀ ts:List Sy,purs (ts.map Sy.w)=true
 | []=>rfl
 |t::ts=>by simp [purs,t.pur,zdu ts]
theorem ziM {n:Nat}:∀ ts:List Sy,(∀ t∈ts,t.size<=n)->deps (ts.map Sy.w)<=n
 | [],_=>Nat.zero_le _
 |t::ts,h=>by
  have h1:=Sy.dep t
  have h2:=h t List.mem_cons_self
  have h3:=ziM ts fun x hx=>h x (List.mem_cons_of_mem _ hx)
  simp only [List.map_cons,deps]
  omega
theorem srtb {ts:List Sy} (hn:ts.length<64) (hs:∀ t∈ts,t.size<=59):Srtb (ts.map Sy.w) where
 pure:=zdu ts
 lt:=fun x hx y hy=>by
  obtain ⟨a,_,rfl⟩:=List.mem_map.mp hx
  obtain ⟨b,_,rfl⟩:=List.mem_map.mp hy
  exact Sy.lt a b
 few:=by simpa using hn
 deep:=Nat.lt_of_le_of_lt (ziM ts hs) (by omega)
 hd:=⟨"str", fun x hx=>by obtain ⟨a,_,rfl⟩:=List.mem_map.mp hx;exact a.hd⟩
theorem zhh (ts:List Sy):∃ us:List Sy,srt (ts.map Sy.w)=us.map Sy.w/\us.length=ts.length/\∀ n,(∀ t∈ts,t.size<=n)->∀ t∈us,t.size<=n:=by
 have p:=zaM (ts.map Sy.w)
 have q:∀ x∈srt (ts.map Sy.w),∃ t,t∈ts/\x=t.w:=fun x hx=>by
  obtain ⟨t,ht,rfl⟩:=List.mem_map.mp (p.mem_iff.mp hx)
  exact ⟨t,ht,rfl⟩
 have key:∀ (ws:List W),(∀ x∈ws,∃ t,t∈ts/\x=t.w)->∃ us:List Sy,ws=us.map Sy.w/\∀ t∈us,t∈ts:=by
  intro ws
  induction ws with
  |nil=>exact fun _=>⟨[],rfl,fun _ h=>nomatch h⟩
  |cons x ws ih =>
   intro h
   obtain ⟨t,ht,rfl⟩:=h x List.mem_cons_self
   obtain ⟨us,e,hu⟩:=ih fun y hy=>h y (List.mem_cons_of_mem _ hy)
   refine ⟨t::us,by rw [e];rfl,fun y hy=>?_⟩
   rcases List.mem_cons.mp hy with rfl | hy
   .exact ht
   .exact hu y hy
 obtain ⟨us,e,hu⟩:=key _ q
 refine ⟨us,e,?_,fun n hn t ht=>hn t (hu t ht)⟩
 have:=p.length_eq
 rw [e,List.length_map,List.length_map] at this
 exact this
theorem mix {x y:Str} {l l':List W} (h:(x==y)=false) (e:eqW (.tup (.str x::l)) (.tup (.str y::l'))=true):False:=by simp [eqW,eqWs,h] at e
theorem tl1 {x:Str} {a b:W} (e:eqW (.tup [.str x,a]) (.tup [.str x,b])=true):eqW a b=true:=by simpa [eqW,eqWs] using e
theorem tl2 {x:Str} {a b c d:W} (e:eqW (.tup [.str x,a,c]) (.tup [.str x,b,d])=true):eqW a b=true/\eqW c d=true:=by simpa [eqW,eqWs] using e
theorem Sy.eqw:∀ a b:Sy,eqW a.w b.w=true->a=b
 | .say x,.say y,h=>by have:=tl1 h;simp [eqW] at this;rw [this]
 | .not a,.not b,h=>by rw [Sy.eqw a b (tl1 h)]
 | .and a c,.and b d,h=>by rw [Sy.eqw a b (tl2 h).1,Sy.eqw c d (tl2 h).2]
 | .or a c,.or b d,h=>by rw [Sy.eqw a b (tl2 h).1,Sy.eqw c d (tl2 h).2]
 | .ite a c,.ite b d,h=>by rw [Sy.eqw a b (tl2 h).1,Sy.eqw c d (tl2 h).2]
 | .say _,.not _,h=>(mix zeB h).elim
 | .say _,.and _ _,h=>(mix zeC h).elim
 | .say _,.or _ _,h=>(mix zgs h).elim
 | .say _,.ite _ _,h=>(mix zgt h).elim
 | .not _,.say _,h=>(mix zch h).elim
 | .not _,.and _ _,h=>(mix zeD h).elim
 | .not _,.or _ _,h=>(mix zgw h).elim
 | .not _,.ite _ _,h=>(mix zgx h).elim
 | .and _ _,.say _,h=>(mix zci h).elim
 | .and _ _,.not _,h=>(mix zeE h).elim
 | .and _ _,.or _ _,h=>(mix zgA h).elim
 | .and _ _,.ite _ _,h=>(mix zgB h).elim
 | .or _ _,.say _,h=>(mix zcT h).elim
 | .or _ _,.not _,h=>(mix zgu h).elim
 | .or _ _,.and _ _,h=>(mix zgv h).elim
 | .or _ _,.ite _ _,h=>(mix ziu h).elim
 | .ite _ _,.say _,h=>(mix zcU h).elim
 | .ite _ _,.not _,h=>(mix zgy h).elim
 | .ite _ _,.and _ _,h=>(mix zgz h).elim
 | .ite _ _,.or _ _,h=>(mix ziv h).elim
theorem Sy.inj {a b:Sy} (h:a.w=b.w):a=b:=Sy.eqw a b (by rw [h];exact zdx b.pur)
theorem Sy.any {ts:List Sy} {u:Sy}:((ts.map Sy.w).any fun z=>eqW z u.w)=true↔u∈ts:=by
 rw [List.any_eq_true]
 constructor
 .rintro ⟨z,hz,e⟩
  obtain ⟨t,ht,rfl⟩:=List.mem_map.mp hz
  rw [← Sy.eqw t u e];exact ht
 .exact fun h=>⟨u.w,List.mem_map.mpr ⟨u,h,rfl⟩,zdx u.pur⟩
theorem zb7 {α:Type} {f:α->W} (hf:∀ a b,f a=f b->a=b) {l:List α} (h:l.Nodup):(l.map f).Nodup:=List.pairwise_map.mpr (h.imp fun n e=>n (hf _ _ e))
theorem zl9 {α:Type} {f:α->W} {l:List α} (h:(l.map f).Nodup):l.Nodup:=(List.pairwise_map.mp h).imp fun n e=>n (congrArg f e)
theorem zpu {ts us:List Sy} (e:srt (ts.map Sy.w)=us.map Sy.w) (h:ts.Nodup):us.Nodup:=by
 have p:=zaM (ts.map Sy.w)
 rw [e] at p
 exact zl9 (p.symm.nodup (zb7 (fun _ _=>Sy.inj) h))
end K23
set_option Elab.async false
set_option linter.all false
set_option maxRecDepth 100000
set_option maxHeartbeats 8000000
namespace K23
open PySem PySem.Spec PyProof.Rows L2 L3
abbrev eApp:Mt3:=⟨"append", "list", appS⟩
theorem zoT {q:Pr} {A:Around}:MtE (q.at A) eApp/\zhb eApp:=⟨zix PySem.F.plainAttrs_list PySem.F.slot_list_append PySem.F.type_list_append (fun X f=>zq3) zg9,zg9⟩
def tupS:RS:=fun ws G Q=>match ws with
 | [x]=>(match za8 G x with | some xs=>Q (.tup xs) G | none=>False)
 |_=>False
theorem zfQ:zcM tupS:=by
 intro ws G Q Q' k h
 unfold tupS at h ⊢
 split at h
 .split at h
  .exact k _ _ h
  .exact h.elim
 .exact h.elim
theorem zpf {X:Cx}:zbV X (.type "tuple") (lowR X.K tupS):=by
 intro pins s σ H xs us Q I r h
 obtain ⟨ws,G,rs,ab,h⟩:=h
 unfold tupS at h
 split at h
 .rename_i w
  obtain ⟨v,rfl,rv⟩:=zdo rs
  split at h
  .rename_i ys hy
   obtain ⟨a,vs,b,rfl,sq,rr⟩:=zjU ab rv hy
   refine zfI pins s σ H _ us Q I r ⟨a,vs,rfl,?_⟩
   cases b
   .exact .inl ⟨sq,zdJ ab rr h⟩
   .exact .inr ⟨sq,h _ _ .refl ⟨a,vs,rfl,sq,rr⟩ ab⟩
  .exact h.elim
 .exact h.elim
abbrev eTup:Fn3:=⟨"tuple", fun ws G Q _=>tupS ws G Q⟩
theorem zoI {q:Pr} {A:Around} (hm:q.mg "tuple" = none):zc4 (q.at A) eTup:=⟨zoE hm (by decide +kernel) (fun X f=>zpf) zfQ (fun _ _ h=>h),fun ws G Q Q' _ k h=>zfQ ws G Q Q' k h⟩
def Fr (ws:List W) (G:Hw) (Q:Q3):Prop:=∀ r G',Keep [] G G'->G r=none->G' r=some (.lst ws)->Q (.ref r) G'
theorem Fr.mono {ws:List W} {G:Hw} {Q Q':Q3} (k:∀ w G',Q w G'->Q' w G') (h:Fr ws G Q):Fr ws G Q':=fun r G' a b c=>k _ _ (h r G' a b c)
theorem Fr.of {ws:List W} {G:Hw} {Q:Q3} (h:Fr ws G Q):∀ r,G r=none->Q (.ref r) (put G r (.lst ws)):=fun r hr=>h r _ (Keep.new hr) hr zad
theorem Fr.keep {ws:List W} {G G1:Hw} {Q:Q3} (h:Fr ws G Q) (k:Keep [] G G1):Fr ws G1 Q:=fun r G' a b c=>h r G' (k.trans a) (k.none (by simp) b) c
def words:Sy->List Str
 | .say _=>[]
 | .not _=>["not"]
 | .and _ _=>["left", "right"]
 | .or _ _=>["which"]
 | .ite _ _=>["if"]
def zdi (t:Sy):List W:=(words t).map W.str
def kid1:Sy->Sy
 | .not a=>a
 | .and a _=>a
 | .or a _=>a
 | .ite a _=>a
 |t=>t
def kid2:Sy->Sy
 | .and _ b=>b
 | .or _ b=>b
 | .ite _ b=>b
 |t=>t
def okD (x:Str) (t:Sy):Prop:=x∈words t\/x = "begin"
def said (x:Str) (t:Sy):W:=if x = "if" \/ x = "not" then (kid1 t).w else .non
def zhy:List W->List W
 | [x,y]=>if eqW x y=true then [x] else [x,y]
 |l=>l
def once (a b:Sy):List W:=zhy (srt [a.w,b.w])
def ans (x:Str) (t:Sy):List W:=if x = "begin" then [t.w] else if x = "left" then [(kid1 t).w] else if x = "right" \/ x = "if" then [(kid2 t).w] else if x = "which" then once (kid1 t) (kid2 t) else []
def Same (n:Nat) (G:Hw) (x y:W):Prop:=(x=y/\st x=true/\dep x<n)\/∃ p q l,x=.ref p/\y=.ref q/\zav G p=some l/\zav G q=some l/\sts l=true/\deps l+1<n/\l.length<=1000
def zaT (n:Nat):Sp3:=fun ws G Q _=>∃ (d l r:Addr) (m:Int) (xs:List Str),ws=[.ref d,.ref r,.int m]/\Deal G d l/\r∉[d,l]/\G r=some (.lst (xs.map .str))/\xs≠[]/\xs.length<=100/\1<=m/\m<=n/\m<=100 /\
 ∀ (t:Sy) G',(t.size:Int)<=m->Keep [d,l] G G'->Deal G' d l->Q t.w G'
def ze8:Sp3:=fun ws G Q _=>∃ (d l:Addr) (m:Int),ws=[.ref d,.int m]/\Deal G d l/\1<=m/\m<=50/\∀ (r:Addr) (xs:List Str) G',xs≠[]->xs.length<=100->r∉[d,l]->G' r=some (.lst (xs.map .str))->Keep [d,l] G G'->Deal G' d l->Q (.ref r) G'
def zaB (n:Nat):Sp3:=fun ws G Q _=>∃ t:Sy,ws=[t.w]/\t.size<=n/\t.size<=21/\∀ ts:List Sy,(∀ x∈ts,x.size<=t.size)->ts.length<=t.size->ts.Nodup->Fr (ts.map Sy.w) G Q
def zc7:Sp3:=fun ws G Q _=>∃ t:Sy,ws=[t.w]/\Fr (zdi t) G Q
def zaP (n:Nat):Sp3:=fun ws G Q _=>∃ x y,ws=[x,y]/\Same n G x y/\∀ G',Keep [] G G'->Q (.bl true) G'
def zfX:Sp3:=fun ws G Q _=>∃ (t:Sy) (x:Str),ws=[.tup [.str x,t.w]]/\okD x t/\Q (said x t) G
def zif:Sp3:=fun ws G Q _=>∃ xs,ws=[.tup xs]/\Srtb xs/\sts xs=true/\∀ us,sts us=true->zaR us->(∀ w,w∈us↔w∈xs)->us.length<=xs.length->Fr us G Q
def zjP:Sp3:=fun ws G Q _=>∃ (t:Sy) (x:Str),ws=[.tup [.str x,t.w]]/\okD x t/\t.size<=21/\Fr (ans x t) G Q
inductive Mv where
 |ans (x:Str) (t s:Sy) | dbt (x:Str) (t:Sy)
def Mv.w:Mv->W
 | .ans x t s=>.tup [.str "answer", .tup [.str x,t.w],s.w]
 | .dbt x t=>.tup [.str "doubt", .str x,t.w]
def Mv.ok:Mv->Prop
 | .ans _ t s=>t.size<=21/\s.size<=21
 | .dbt x t=>x∈words t/\t.size<=21
def zbm:Mv->Option Sy
 | .ans _ _ s=>some s
 | .dbt x t=>if x = "if" \/ x = "not" then some (kid1 t) else none
def zb1 (m:Mv):W:=match zbm m with | some s=>s.w | none=>.non
def zb2:Sp3:=fun ws G Q _=>∃ m:Mv,ws=[m.w]/\m.ok/\Q (zb1 m) G
structure Bk where
 a:Str
 b:Str
 c:Str
 e:Str
 f:Str
def Bk.fs (x:Bk):List (Str×W):=[("answers", .str x.a),("again", .str x.b),("doubts", .str x.c),("speaks", .str x.e),("other", .str x.f)]
def Bk.ws (x:Bk):List W:=[.str x.a,.str x.b,.str x.c,.str x.e,.str x.f]
def Bk.ok (x:Bk):Prop:=x.c = "once" \/ x.c = "often"
def zbL:List Str:=["answers", "again", "doubts", "speaks", "other"]
def IsBk (C:Addr) (G:Hw) (p:Addr) (x:Bk):Prop:=G p=some (.ins C x.fs)
def ow:Option Sy->W
 |some s=>s.w
 |none=>.non
def zlE (x:Str) (t:Sy):Option Sy:=if x = "if" \/ x = "not" then some (kid1 t) else none
def zqM:Sy->Bool
 | .say _=>true
 |_=>false
def may (sds:List Sy):Option Sy->Bool
 |none=>true
 |some s=>!(zqM s) || (sds.map Sy.w).any fun z=>eqW z s.w
def dW (d:Str×Sy):W:=.tup [.str d.1,d.2.w]
structure Sd where
 sd:List Sy
 op:List (Str×Sy)
 us:List (Str×Sy)
 fr:List Sy
def Sd.w (z:Sd):W:=.tup [.tup (z.sd.map Sy.w),.tup (z.op.map dW),.tup (z.us.map dW),.tup (z.fr.map Sy.w)]
def zbX (l:List Sy):Prop:=l.length<=8/\l.Nodup/\∀ s∈l,s.size<=8
def zb4 (l:List (Str×Sy)):Prop:=l.length<=17/\l.Nodup/\∀ d∈l,okD d.1 d.2/\d.2.size<=8
structure Sd.ok (z:Sd):Prop where
 sd:zbX z.sd
 op:zb4 z.op
 us:zb4 z.us
 fr:zbX z.fr
 s1:zaR (z.sd.map Sy.w)
 s2:zaR (z.op.map dW)
 s3:zaR (z.us.map dW)
def ansS (x:Str) (t:Sy):List Sy:=open Classical in if h:∃ us:List Sy,ans x t=us.map Sy.w/\us.length<=2/\∀ u∈us,u.size<=t.size then h.choose else []
def zgo (op:List (Str×Sy)) (sds:List Sy):List Mv:=op.flatMap fun d=>((ansS d.1 d.2).filter fun s=>may sds (some s)).map (Mv.ans d.1 d.2)
def zgn (ss:List Sy) (gone:List (Str×Sy)) (sds:List Sy):List Mv:=ss.flatMap fun s=>((words s).filter fun x=>(!((gone.map dW).any fun g=>eqW g (dW (x,s))))&&may sds (zlE x s)).map fun x=>Mv.dbt x s
def zmD (x:Bk) (z:Sd):List (Str×Sy):=if x.c = "once" then z.us else []
def zb0 (x:Bk) (z:Sd):List Sy:=if x.e = "last" then z.fr else z.sd
def pre (x:Bk) (z:Sd):List Mv:=zgo z.op z.sd++zgn (zb0 x z) (zmD x z) z.sd
def mvs (x:Bk) (z:Sd):List W:=srt ((pre x z).map Mv.w)
def preA (m:Mv):List W:=match zbm m with | some s=>(zdi s).map fun w=>.tup [.str "doubt", w] | none=>[]
def preB:Mv->List W
 | .dbt x t=>(ans x t).map fun a=>.tup [.str "answer", a]
 | .ans _ _ _=>[]
def repl (m:Mv):List W:=srt (preA m++preB m)
inductive Ry where
 |dbt (x:Str) | ans (s:Sy)
def Ry.w:Ry->W
 | .dbt x=>.tup [.str "doubt", .str x]
 | .ans s=>.tup [.str "answer", s.w]
def Ry.ok (m:Mv):Ry->Prop
 | .dbt x=>∃ s,zbm m=some s/\x∈words s
 | .ans s=>s.size<=21
def made (m:Mv):Ry->List (Str×Sy)
 | .dbt x=>(match zbm m with | some s=>[(x,s)] | none=>[])
 | .ans _=>[]
def heard (m:Mv):Ry->List Sy
 | .dbt x=>(match zbm m with | some s=>if x = "if" \/ x = "not" then [kid1 s] else [] | none=>[])
 | .ans s=>[s]
def zhH (x:Bk) (op:List (Str×Sy)):Mv->List W
 | .ans y t _=>if x.b = "once" then (op.map dW).filter (fun w=>!(eqW w (dW (y,t)))) else op.map dW
 | .dbt _ _=>op.map dW
def zc8 (x:Bk) (op:List (Str×Sy)) (m:Mv) (mk:List (Str×Sy)):List W:=if x.e = "last" then mk.map dW else if x.a = "last" then (if mk.isEmpty=true then op.map dW else mk.map dW) else uni (zhH x op m) (mk.map dW)
def zeb (x:Bk) (us:List (Str×Sy)) (m:Mv):List W:=if x.c = "once" then (match m with | .dbt y t=>uni (us.map dW) [dW (y,t)] | .ans _ _ _=>us.map dW) else []
def resW (x:Bk) (z:Sd) (m:Mv) (r:Ry):W:=.tup [.tup (uni (z.sd.map Sy.w) ((heard m r).map Sy.w)),.tup (zc8 x z.op m (made m r)),.tup (zeb x z.us m),.tup (if x.e = "last" then (heard m r).map Sy.w else [])]
def zjL (t:Sy):Sd:=⟨[],[("begin", t)],[],[]⟩
section
variable (K : Frg) (C : Addr)
def zfY:Sp3:=fun ws G Q _=>∃ p x,ws=.ref p::Bk.ws x/\G p=some (.ins C [])/\Q .non (put G p (.ins C x.fs))
def zih:Sp3:=mkSp C (fun ws G Q E=>zfY C ws G Q E) [.str "last"]
def ze9:Sp3:=fun ws G Q _=>∃ d l,ws=[.ref d]/\Deal G d l/\∀ p x G',x.ok->G p=none->p∉[d,l]->Keep [d,l] G G'->Deal G' d l->IsBk C G' p x->Q (.ref p) G'
def ze6:Sp3:=fun ws G Q _=>∃ t:Sy,ws=[t.w]/\Q (zjL t).w G
def zic:Sp3:=fun ws G Q _=>∃ d l v xs,ws=[.ref d,v]/\Deal G d l/\za8 G v=some xs/\Srtb xs/\∀ ys G',(∀ y∈ys,y∈xs)->ys.length<=xs.length->(xs.Nodup->ys.Nodup)->(sts xs=true->xs.Nodup->zaR ys)->Keep [d,l] G G'->Deal G' d l->Q (.tup ys) G'
def zce:Sp3:=fun ws G Q _=>∃ d l b x t,ws=[.ref d,.ref b,Sy.w t]/\Deal G d l/\IsBk C G b x/\b∉[d,l]/\t.size<=8/\∀ z G',Sd.ok z->(x.c = "often" -> z.us=[])->Keep [d,l] G G'->Deal G' d l->Q z.w G'
def spMv:Sp3:=fun ws G Q _=>∃ b x z,ws=[.ref b,Sd.w z]/\IsBk C G b x/\x.ok/\z.ok/\Fr (mvs x z) G Q
def zid:Sp3:=fun ws G Q _=>∃ m:Mv,ws=[m.w]/\m.ok/\Fr (repl m) G Q
def zig:Sp3:=fun ws G Q _=>∃ (m:Mv) (r:Ry),ws=[m.w,r.w]/\m.ok/\r.ok m/\Q (.tup ((made m r).map dW)) G
def zfa:Sp3:=fun ws G Q _=>∃ (m:Mv) (r:Ry),ws=[m.w,r.w]/\m.ok/\r.ok m/\Q (.tup ((heard m r).map Sy.w)) G
def zet:Sp3:=fun ws G Q _=>∃ a b,ws=[.tup a,.tup b]/\Srtb (a++b)/\sts (a++b)=true/\a.Nodup/\b.Nodup/\∀ G',Keep [] G G'->Q (.tup (uni a b)) G'
def zie:Sp3:=fun ws G Q _=>∃ (b:Addr) (x:Bk) (op:List (Str×Sy)) (m:Mv) (mk:List (Str×Sy)),ws=[.ref b,.tup (op.map dW),m.w,.tup (mk.map dW)]/\IsBk C G b x/\zb4 op/\m.ok/\mk.length<=1/\(∀ d∈mk,d.2.size<=21)/\∀ G',Keep [] G G'->Q (.tup (zc8 x op m mk)) G'
def zib:Sp3:=fun ws G Q _=>∃ (b:Addr) (x:Bk) (us:List (Str×Sy)) (m:Mv),ws=[.ref b,.tup (us.map dW),m.w]/\IsBk C G b x/\zb4 us/\m.ok/\∀ G',Keep [] G G'->Q (.tup (zeb x us m)) G'
def zb3:Sp3:=fun ws G Q _=>∃ (b:Addr) (x:Bk) (z:Sd) (m:Mv) (r:Ry),ws=[.ref b,z.w,m.w,r.w]/\IsBk C G b x/\x.ok/\z.ok/\(x.c = "often" -> z.us=[])/\m.ok/\r.ok m/\∀ G',Keep [] G G'->Q (resW x z m r) G'
def ze7:Sp3:=fun ws G Q _=>∃ (b:Addr) (x:Bk) (z:Sd),ws=[.ref b,z.w]/\IsBk C G b x/\x.ok/\z.ok/\(x.c = "often" -> z.us=[])/\∀ G',Keep [] G G'->Q (.bl true) G'
def fnL:List Fn3:=[eMax,eLen,eAll,eLst,eIsj K,eSrt,eInt,zqV,zhN,⟨"_law_saying", zaT 10⟩,⟨"_law_names", ze8⟩,⟨"_law_all_parts", zaB 21⟩,⟨"said_by", zfX⟩,⟨"_law_alike", zaP 24⟩,⟨"_law_words", zc7⟩,⟨"told_by", zb2⟩,
 ⟨"sorted_once", zif⟩,⟨"made_by", zig⟩,⟨"_law_answers", zjP⟩,eTup,⟨"Book", zih C⟩,⟨"_law_book", ze9 C⟩,⟨"joined", zet⟩,⟨"_law_start", ze6⟩,⟨"_law_some", zic⟩,⟨"_law_standing", zce C⟩,⟨"_law_says", zb2⟩,⟨"_law_moves", spMv C⟩,⟨"heard_by", zfa⟩,
 ⟨"open_after", zie C⟩,⟨"used_after", zib C⟩,⟨"after", zb3 C⟩,⟨"_law_replies", zid⟩,⟨"_law_after", zb3 C⟩,⟨"_law_right", ze7 C⟩]
def GamL (l:List Fn3):Ctx3:=⟨l,[("str", .ty "str"),("tuple", .ty "tuple"),("list", .ty "list")],[ePop,zmN,eApp,eRem],[eRng,eZpi],[(C,zbL)],[eRev],[]⟩
def Gam (n:Nat):Ctx3:=GamL C ((fnL K C).take n)
def GamR (n:Nat) (e:Fn3):Ctx3:=GamL C ((fnL K C).take n++[e])
end
theorem at_0 {a:W} {l:List W}:atI (a::l) 0=some a:=by
 unfold atI
 have:ixN (a::l).length 0=some 0:=by simp [ixN]
 rw [this];rfl
theorem at_1 {a b:W} {l:List W}:atI (a::b::l) 1=some b:=by
 unfold atI
 have:ixN (a::b::l).length 1=some 1:=by simp [ixN];omega
 rw [this];rfl
theorem at_2 {a b c:W} {l:List W}:atI (a::b::c::l) 2=some c:=by
 unfold atI
 have:ixN (a::b::c::l).length 2=some 2:=by simp [ixN];omega
 rw [this];rfl
theorem zoG {G:Hw} {a b:Str}:eqG G (.str a) (.str b)=some (decide (a=b)):=by
 simp [eqG,pur,dep,eqW,Bool.beq_eq_decide_eq]
theorem sz (n:Nat) (h:n<=1000):n<=sizeLine:=by rw [sizeLine_eq];omega
theorem gZ {α:Type} {a:α} {l:List α}:(a::l)[0]?=some a:=rfl
theorem gS {α:Type} {a:α} {l:List α} {i:Nat}:(a::l)[i+1]?=l[i]?:=rfl
theorem tZ {α:Type} {a b:α} {l:List α}:(a::l).set 0 b=b::l:=rfl
theorem tS {α:Type} {a b:α} {l:List α} {i:Nat}:(a::l).set (i+1) b=a::l.set i b:=rfl
section
variable {K : Frg} {C : Addr}
theorem zjA {n:Nat} {ws:List W} {G:Hw} {Q:Q3} (h:zc7 ws G Q XN):zaf (Gam K C n) XN zbQ { nx:=fun _ G'=>Q .non G',rt:=Q } (zap zcy ws) G:=by
 obtain ⟨t,rfl,h⟩:=h
 show zaf (Gam K C n) XN zbQ { nx:=fun _ G'=>Q .non G',rt:=Q } [some t.w] G
 have d1:(decide (("say" : Str) = "and"))=false/\(decide (("say" : Str) = "or"))=false/\(decide (("say" : Str) = "if"))=false/\(decide (("say" : Str) = "not"))=false:=by decide +kernel
 have d2:(decide (("not" : Str) = "and"))=false/\(decide (("not" : Str) = "or"))=false/\(decide (("not" : Str) = "if"))=false/\(decide (("not" : Str) = "not"))=true:=by decide +kernel
 have d3:(decide (("or" : Str) = "and"))=false/\(decide (("if" : Str) = "and"))=false/\(decide (("if" : Str) = "or"))=false:=by decide +kernel
 have z0:=sz 0 (by decide)
 have z1:=sz 1 (by decide)
 have z2:=sz 2 (by decide)
 cases t <;> simp only [Sy.w,zbQ] <;> ((try dsimp only [zaf,semS,semE,semT,sem,mkE,mkB,blE,truE,semA,semO,semG,zab,semI,semC,conW,intR,blR,negR,gZ,gS,tZ,tS]);try simp only [ixR,at_0,cmpR,zoG,d1,d2,d3,decide_true,if_true,if_false,zzB,zzL,zzC,zzA,z0,z1,z2,true_and]) <;> exact h.of
theorem zlD {n:Nat} {ws:List W} {G:Hw} {Q:Q3} (h:zfX ws G Q XN):zaf (Gam K C n) XN zdz { nx:=fun _ G'=>Q .non G',rt:=Q } (zap zfp ws) G:=by
 obtain ⟨t,x,rfl,ok,h⟩:=h
 show zaf (Gam K C n) XN zdz { nx:=fun _ G'=>Q .non G',rt:=Q } [some (.tup [.str x,t.w]),none,none] G
 have z2:=sz 2 (by decide)
 simp only [zdz]
 ((try dsimp only [zaf,semS,semE,semT,sem,mkE,mkB,blE,truE,semA,semO,semG,zab,semI,semC,conW,intR,blR,negR,gZ,gS,tZ,tS]);try simp only [cmpR,memR,L3.inR,zzC,zzL,zzA,z2,true_and])
 refine ⟨⟨by simp [pur],by simp [purs,pur],by simp [deps,dep]⟩,?_⟩
 have hb:(([W.str "if", .str "not"]:List W).any fun w=>eqW w (.str x))=decide (x = "if" \/ x = "not"):=by
  simp [eqW,Bool.beq_eq_decide_eq,eq_comm]
 simp only [zzB,if_false,hb,decide_eq_true_eq]
 unfold said at h
 split
 .rename_i hx
  rw [if_pos hx] at h
  have k:∀ l,t.w=.tup l->atI l 1=some (kid1 t).w->ixR t.w (.int 1) G Q:=fun l e1 e2=>by
   rw [e1];simp only [ixR,e2];exact h
  rcases ok with ok | rfl
  .cases t with
   |say _=>cases ok
   |not a=>exact k _ rfl at_1
   |and a b=>exact k _ rfl at_1
   |or a b=>exact k _ rfl at_1
   |ite a b=>exact k _ rfl at_1
  .exact absurd hx (by decide +kernel)
 .rename_i hx
  rw [if_neg hx] at h
  exact h
end
end K23
set_option Elab.async false
set_option linter.all false
set_option maxRecDepth 100000
set_option maxHeartbeats 8000000
namespace K23
open PySem PySem.Spec PyProof.Rows L2 L3
theorem Sy.tup (t:Sy):∃ l,t.w=.tup l:=by cases t <;> exact ⟨_,rfl⟩
theorem eqG_w {G:Hw} (a b:Sy) (h:a.size<=150):eqG G a.w b.w=some (eqW a.w b.w):=by
 have h1:=Sy.dep a
 have p1:=a.pur
 have p2:=b.pur
 obtain ⟨l,e⟩:=a.tup
 obtain ⟨l',e'⟩:=b.tup
 rw [e] at h1 p1 ⊢
 rw [e'] at p2 ⊢
 show (if (pur (.tup l)&&pur (.tup l')&&decide (min (dep (.tup l)) (dep (.tup l'))<=150))=true then some (eqW (.tup l) (.tup l')) else none)=_
 rw [p1,p2,if_pos (by simp only [Bool.true_and,decide_eq_true_eq];omega)]
section
variable {K : Frg} {C : Addr}
theorem fnAt {n:Nat} (i:Nat) (hi:i<n) {e:Fn3} (h:(fnL K C)[i]?=some e):(Gam K C n).fn[i]?=some e:=by
 show ((fnL K C).take n)[i]?=_
 rw [List.getElem?_take_of_lt hi];exact h
theorem fnA {n m:Nat} (i:Nat) (hn:m<=n) {e:Fn3} (h:(fnL K C)[i]?=some e) (hi:i<m:=by decide):(Gam K C n).fn[i]?=some e:=fnAt i (Nat.lt_of_lt_of_le hi hn) h
theorem tyL {G:Hw} {o:Addr} {l:List W} (e:G o=some (.lst l)):tyW G (.ref o) "list" := by simp only [tyW,e]
theorem appL {G:Hw} {o:Addr} {l:List W} {y:W} {Q:Q3} (e:G o=some (.lst l)) (hl:l.length<1000) (h:Q .non (put G o (.lst (l++[y])))):appS (.ref o) [y] G Q:=by
 simp only [appS,e]
 exact ⟨by rw [sizeLine_eq];omega,h⟩
end
end K23
set_option Elab.async false
set_option linter.all false
set_option maxRecDepth 100000
set_option maxHeartbeats 8000000
namespace K23
open PySem PySem.Spec PyProof.Rows L2 L3
theorem stp {Γ:Ctx3} {E:XQ} {s:IS} {ss:ISs} {D:End3} {σ:St3} {G:Hw} (h:semS Γ E s { D with nx:=zaf Γ E ss D } σ G):zaf Γ E (.cons s ss) D σ G:=h
theorem stn {Γ:Ctx3} {E:XQ} {D:End3} {σ:St3} {G:Hw} (h:D.nx σ G):zaf Γ E .nil D σ G:=h
theorem zgm:(("begin" : Str) == "left")=false:=by decide +kernel
theorem zfm:(("begin" : Str) == "right")=false:=by decide +kernel
theorem zi6:(("begin" : Str) == "if")=false:=by decide +kernel
theorem zfl:(("begin" : Str) == "which")=false:=by decide +kernel
theorem zhw:(("begin" : Str) == "not")=false:=by decide +kernel
theorem zgl:(("left" : Str) == "begin")=false:=by decide +kernel
theorem zgk:(("left" : Str) == "right")=false:=by decide +kernel
theorem zj9:(("left" : Str) == "if")=false:=by decide +kernel
theorem zgj:(("left" : Str) == "which")=false:=by decide +kernel
theorem zi2:(("left" : Str) == "not")=false:=by decide +kernel
theorem zfk:(("right" : Str) == "begin")=false:=by decide +kernel
theorem zgi:(("right" : Str) == "left")=false:=by decide +kernel
theorem zi0:(("right" : Str) == "if")=false:=by decide +kernel
theorem zfj:(("right" : Str) == "which")=false:=by decide +kernel
theorem zhs:(("right" : Str) == "not")=false:=by decide +kernel
theorem zi5:(("if" : Str) == "begin")=false:=by decide +kernel
theorem zka:(("if" : Str) == "left")=false:=by decide +kernel
theorem zi4:(("if" : Str) == "right")=false:=by decide +kernel
theorem zi3:(("if" : Str) == "which")=false:=by decide +kernel
theorem zlK:(("if" : Str) == "not")=false:=by decide +kernel
theorem zfi:(("which" : Str) == "begin")=false:=by decide +kernel
theorem zgh:(("which" : Str) == "left")=false:=by decide +kernel
theorem zfh:(("which" : Str) == "right")=false:=by decide +kernel
theorem ziZ:(("which" : Str) == "if")=false:=by decide +kernel
theorem zhr:(("which" : Str) == "not")=false:=by decide +kernel
theorem zhv:(("not" : Str) == "begin")=false:=by decide +kernel
theorem zi1:(("not" : Str) == "left")=false:=by decide +kernel
theorem zhu:(("not" : Str) == "right")=false:=by decide +kernel
theorem zio:(("not" : Str) == "if")=false:=by decide +kernel
theorem zht:(("not" : Str) == "which")=false:=by decide +kernel
theorem qs:((("begin" : Str) == "left")=false)/\((("begin" : Str) == "right")=false)/\((("begin" : Str) == "if")=false)/\((("begin" : Str) == "which")=false)/\((("begin" : Str) == "not")=false)/\((("left" : Str) == "begin")=false)/\((("left" : Str) == "right")=false)/\((("left" : Str) == "if")=false)/\((("left" : Str) == "which")=false)/\((("left" : Str) == "not")=false)/\((("right" : Str) == "begin")=false)/\((("right" : Str) == "left")=false)/\((("right" : Str) == "if")=false)/\((("right" : Str) == "which")=false)/\((("right" : Str) == "not")=false)/\((("if" : Str) == "begin")=false)/\((("if" : Str) == "left")=false)/\((("if" : Str) == "right")=false)/\((("if" : Str) == "which")=false)/\((("if" : Str) == "not")=false)/\((("which" : Str) == "begin")=false)/\((("which" : Str) == "left")=false)/\((("which" : Str) == "right")=false)/\((("which" : Str) == "if")=false)/\((("which" : Str) == "not")=false)/\((("not" : Str) == "begin")=false)/\((("not" : Str) == "left")=false)/\((("not" : Str) == "right")=false)/\((("not" : Str) == "if")=false)/\((("not" : Str) == "which")=false):=⟨zgm,zfm,zi6,zfl,zhw,zgl,zgk,zj9,zgj,zi2,zfk,zgi,zi0,zfj,zhs,zi5,zka,zi4,zi3,zlK,zfi,zgh,zfh,ziZ,zhr,zhv,zi1,zhu,zio,zht⟩
theorem zcJ {a b:Str}:eqW (.str a) (.str b)=(a==b):=by simp [eqW]
theorem zah {G:Hw} {a b:Str}:eqG G (.str a) (.str b)=some (a==b):=by simp [eqG,pur,dep,eqW]
theorem cut3 {x a b:W}:cut [x,a,b] (some 1) none=[a,b]:=by rfl
theorem cut2 {x a:W}:cut [x,a] (some 1) none=[a]:=by rfl
theorem zki {x:Str} {t:Sy} {P:Str->Sy->Prop} (ok:okD x t) (h0:∀ t,P "begin" t) (h1:∀ a,P "not" (.not a)) (h2:∀ a b,P "left" (.and a b)) (h3:∀ a b,P "right" (.and a b)) (h4:∀ a b,P "which" (.or a b)) (h5:∀ a b,P "if" (.ite a b)):P x t:=by
 rcases ok with ok | rfl
 .cases t with
  |say _=>cases ok
  |not a=>rw [List.mem_singleton.mp ok];exact h1 a
  |and a b =>
   rcases List.mem_cons.mp ok with rfl | ok
   .exact h2 a b
   .rw [List.mem_singleton.mp ok];exact h3 a b
  |or a b=>rw [List.mem_singleton.mp ok];exact h4 a b
  |ite a b=>rw [List.mem_singleton.mp ok];exact h5 a b
 .exact h0 t
theorem zlf (t:Sy):ans "begin" t=[t.w]:=by rw [ans,if_pos rfl]
theorem zo7 (a:Sy):ans "not" (.not a)=[]:=by
 rw [ans,if_neg (by decide +kernel),if_neg (by decide +kernel),if_neg (by decide +kernel),if_neg (by decide +kernel)]
theorem zmY (a b:Sy):ans "left" (.and a b)=[a.w]:=by
 rw [ans,if_neg (by decide +kernel),if_pos rfl];rfl
theorem zle (a b:Sy):ans "right" (.and a b)=[b.w]:=by
 rw [ans,if_neg (by decide +kernel),if_neg (by decide +kernel),if_pos (.inl rfl)];rfl
theorem zq4 (a b:Sy):ans "if" (.ite a b)=[b.w]:=by
 rw [ans,if_neg (by decide +kernel),if_neg (by decide +kernel),if_pos (.inr rfl)];rfl
theorem zld (a b:Sy):ans "which" (.or a b)=once a b:=by
 rw [ans,if_neg (by decide +kernel),if_neg (by decide +kernel),if_neg (by decide +kernel),if_pos rfl];rfl
section
variable {K : Frg} {C : Addr}
theorem zmp {n:Nat} (hn:17<=n) {ws:List W} {G:Hw} {Q:Q3} (h:zjP ws G Q XN):zaf (Gam K C n) XN zao { nx:=fun _ G'=>Q .non G',rt:=Q } (zap zbK ws) G:=by
 obtain ⟨t,x,rfl,ok,hs,h⟩:=h
 have e5:(Gam K C n).fn[5]?=some eSrt:=fnA 5 hn rfl
 have e6:(Gam K C n).fn[6]?=some eInt:=fnA 6 hn rfl
 have z0:=sz 0 (by decide)
 have z1:=sz 1 (by decide)
 have z2:=sz 2 (by decide)
 show zaf (Gam K C n) XN zao { nx:=fun _ G'=>Q .non G',rt:=Q } [some (.tup [.str x,t.w]),none,none,none] G
 revert hs h
 refine zki (P:=fun x t=>t.size<=21->Fr (ans x t) G Q->zaf (Gam K C n) XN zao { nx:=fun _ G'=>Q .non G',rt:=Q } [some (.tup [.str x,t.w]),none,none,none] G) ok ?_ ?_ ?_ ?_ ?_ ?_
 .intro t hs h
  rw [zlf] at h
  simp only [zao]
  repeat (refine stp ?_;((try dsimp only [semS,semE,semT,sem,mkE,mkB,blE,truE,semA,semO,semG,zab,semI,semC,conW,intR,blR,negR,gZ,gS,tZ,tS]);try simp only [cmpR,memR,L3.inR,zah,beq_self_eq_true,qs,zzB,if_false,if_true,zzL,zzC,zzA,Nat.reduceAdd,true_and,List.any_cons,List.any_nil,zcJ,Bool.or_false,Bool.false_or,Bool.or_true,Bool.true_or,pur,purs,dep,deps,Bool.and_self,Nat.max_self,Nat.min_self,Nat.zero_le,and_self,z0,z1,z2]);try refine stn (Γ:=Gam K C n) (E:=XN) ?_)
  exact h.of
 .intro a hs h
  rw [zo7] at h
  simp only [zao]
  repeat (refine stp ?_;((try dsimp only [semS,semE,semT,sem,mkE,mkB,blE,truE,semA,semO,semG,zab,semI,semC,conW,intR,blR,negR,gZ,gS,tZ,tS]);try simp only [cmpR,memR,L3.inR,zah,beq_self_eq_true,qs,zzB,if_false,if_true,zzL,zzC,zzA,Nat.reduceAdd,true_and,List.any_cons,List.any_nil,zcJ,Bool.or_false,Bool.false_or,Bool.or_true,Bool.true_or,pur,purs,dep,deps,Bool.and_self,Nat.max_self,Nat.min_self,Nat.zero_le,and_self,z0,z1,z2]);try refine stn (Γ:=Gam K C n) (E:=XN) ?_)
  exact h.of
 .intro a b hs h
  rw [zmY] at h
  simp only [zao]
  repeat (refine stp ?_;((try dsimp only [semS,semE,semT,sem,mkE,mkB,blE,truE,semA,semO,semG,zab,semI,semC,conW,intR,blR,negR,gZ,gS,tZ,tS]);try simp only [cmpR,memR,L3.inR,zah,beq_self_eq_true,qs,zzB,if_false,if_true,zzL,zzC,zzA,Nat.reduceAdd,true_and,List.any_cons,List.any_nil,zcJ,Bool.or_false,Bool.false_or,Bool.or_true,Bool.true_or,pur,purs,dep,deps,Bool.and_self,Nat.max_self,Nat.min_self,Nat.zero_le,and_self,z0,z1,z2,Sy.w,ixR,at_1]);try refine stn (Γ:=Gam K C n) (E:=XN) ?_)
  exact h.of
 .intro a b hs h
  rw [zle] at h
  simp only [zao]
  repeat (refine stp ?_;((try dsimp only [semS,semE,semT,sem,mkE,mkB,blE,truE,semA,semO,semG,zab,semI,semC,conW,intR,blR,negR,gZ,gS,tZ,tS]);try simp only [cmpR,memR,L3.inR,zah,beq_self_eq_true,qs,zzB,if_false,if_true,zzL,zzC,zzA,Nat.reduceAdd,true_and,List.any_cons,List.any_nil,zcJ,Bool.or_false,Bool.false_or,Bool.or_true,Bool.true_or,pur,purs,dep,deps,Bool.and_self,Nat.max_self,Nat.min_self,Nat.zero_le,and_self,z0,z1,z2,Sy.w,ixR,at_2]);try refine stn (Γ:=Gam K C n) (E:=XN) ?_)
  exact h.of
 .intro a b hs h
  rw [zld] at h
  simp only [zao]
  repeat (refine stp ?_;((try dsimp only [semS,semE,semT,sem,mkE,mkB,blE,truE,semA,semO,semG,zab,semI,semC,conW,intR,blR,negR,gZ,gS,tZ,tS]);try simp only [cmpR,memR,L3.inR,zah,beq_self_eq_true,qs,zzB,if_false,if_true,zzL,zzC,zzA,Nat.reduceAdd,true_and,List.any_cons,List.any_nil,zcJ,Bool.or_false,Bool.false_or,Bool.or_true,Bool.true_or,pur,purs,dep,deps,Bool.and_self,Nat.max_self,Nat.min_self,Nat.zero_le,and_self,z0,z1,z2,Sy.w,ixR,at_1,at_2,e5,e6,zfZ,za8]);try refine stn (Γ:=Gam K C n) (E:=XN) ?_)
  intro p hp
  simp only [Sy.size] at hs
  obtain ⟨us,eu,lu,su⟩:=zhh [a,b]
  have su:=su 21 (by simp;omega)
  obtain ⟨x,y,rfl⟩:∃ x y,us=[x,y]:=by
   match us,lu with
   | [x,y],_=>exact ⟨x,y,rfl⟩
  have hx:x.size<=21:=su x (by simp)
  have hy:y.size<=21:=su y (by simp)
  refine ⟨[a.w,b.w],zac zad,srtb (ts:=[a,b]) (by show 2<64;decide) (by simp;omega),fun s hs'=>?_⟩
  have eu:srt [a.w,b.w]=[x.w,y.w]:=eu
  have eo:once a b=zhy [x.w,y.w]:=by unfold once;rw [eu]
  rw [eo] at h
  rw [eu]
  generalize eG:put (put G p (.lst [a.w,b.w])) s (.lst [x.w,y.w])=G1
  have g1:G1 s=some (.lst [x.w,y.w]):=by rw [← eG];exact zad
  have k1:Keep [] G G1:=by rw [← eG];exact (Keep.new hp).trans (Keep.new hs')
  refine stp ?_
  ((try dsimp only [semS,semE,semT,sem,mkE,mkB,blE,truE,semA,semO,semG,zab,semI,semC,conW,intR,blR,negR,gZ,gS,tZ,tS]);try simp only [cmpR,memR,L3.inR,zah,beq_self_eq_true,qs,zzB,if_false,if_true,zzL,zzC,zzA,Nat.reduceAdd,true_and,List.any_cons,List.any_nil,zcJ,Bool.or_false,Bool.false_or,Bool.or_true,Bool.true_or,pur,purs,dep,deps,Bool.and_self,Nat.max_self,Nat.min_self,Nat.zero_le,and_self,e6,ixR,g1,at_0,at_1,eqG_w x y (show x.size<=150 by omega),intS,binR,slR,zac g1])
  have h1:=(h.keep k1).of
  cases q:eqW x.w y.w with
  |true =>
   have:zhy [x.w,y.w]=cut [x.w,y.w] none (some (1+if (!true)=true then 1 else 0)):=by simp [zhy,q];rfl
   rw [this] at h1
   exact h1
  |false =>
   have:zhy [x.w,y.w]=cut [x.w,y.w] none (some (1+if (!false)=true then 1 else 0)):=by simp [zhy,q];rfl
   rw [this] at h1
   exact h1
 .intro a b hs h
  rw [zq4] at h
  simp only [zao]
  repeat (refine stp ?_;((try dsimp only [semS,semE,semT,sem,mkE,mkB,blE,truE,semA,semO,semG,zab,semI,semC,conW,intR,blR,negR,gZ,gS,tZ,tS]);try simp only [cmpR,memR,L3.inR,zah,beq_self_eq_true,qs,zzB,if_false,if_true,zzL,zzC,zzA,Nat.reduceAdd,true_and,List.any_cons,List.any_nil,zcJ,Bool.or_false,Bool.false_or,Bool.or_true,Bool.true_or,pur,purs,dep,deps,Bool.and_self,Nat.max_self,Nat.min_self,Nat.zero_le,and_self,z0,z1,z2,Sy.w,ixR,at_2]);try refine stn (Γ:=Gam K C n) (E:=XN) ?_)
  exact h.of
end
end K23
set_option Elab.async false
set_option linter.all false
set_option maxRecDepth 100000
set_option maxHeartbeats 8000000
namespace K23
open PySem PySem.Spec PyProof.Rows L2 L3
theorem zcc {S:List Addr} {G G':Hw} {d l:Addr} (k:Keep S G G') (hd:d∉S) (hl:l∉S) (D:Deal G d l):Deal G' d l:=by
 obtain ⟨x,y,z,D⟩:=D
 exact ⟨x,y,z,k _ _ hd D.dic,k _ _ hl D.lst,D.s0,D.s1,D.n0,D.lf,D.len,D.ne⟩
theorem zaA {G:Hw} {d l p:Addr} {o:O} (h:G p=none) (D:Deal G d l):Deal (put G p o) d l:=zcc (S:=[]) (Keep.new h) (by simp) (by simp) D
theorem zk9 {xs:List Str} {i:Int} (h0:0<=i) (h1:i<xs.length):∃ x∈xs,atI (xs.map W.str) i=some (.str x):=by
 have hi:i.toNat<xs.length:=by omega
 refine ⟨xs[i.toNat],List.getElem_mem hi,?_⟩
 unfold atI ixN
 rw [if_pos h0,List.length_map,if_pos h1]
 show (xs.map W.str)[i.toNat]?=_
 rw [List.getElem?_map,List.getElem?_eq_getElem hi]
 rfl
theorem ixL {G:Hw} {t:Addr} {xs:List W} {i:Int} {Q:Q3} (e:zav G t=some xs) (h:match atI xs i with | some w=>Q w G | none=>False):ixR (.ref t) (.int i) G Q:=by
 unfold zav at e
 split at e
 .rename_i q;cases e;simp only [ixR,q];exact h
 .rename_i q;cases e;simp only [ixR,q];exact h
 .cases e
section
variable {K : Frg} {C : Addr}
theorem ziY {n:Nat} {ws:List W} {G:Hw} {Q:Q3} (h:zaT (n+1) ws G Q XN):zaf (GamR K C 9 ⟨"_law_saying", zaT n⟩) XN zby { nx:=fun _ G'=>Q .non G',rt:=Q } (zap zb8 ws) G:=by
 obtain ⟨d,l,r,m,xs,rfl,D,hr,gr,hx,hxl,m1,mn,m100,h⟩:=h
 have e1:(GamR K C 9 ⟨"_law_saying", zaT n⟩).fn[1]?=some eLen:=rfl
 have e8:(GamR K C 9 ⟨"_law_saying", zaT n⟩).fn[8]?=some zhN:=rfl
 have e9:(GamR K C 9 ⟨"_law_saying", zaT n⟩).fn[9]?=some ⟨"_law_saying", zaT n⟩:=rfl
 have z2:=sz 2 (by decide)
 have z3:=sz 3 (by decide)
 have x0:0<xs.length:=List.length_pos_iff.mpr hx
 show zaf (GamR K C 9 ⟨"_law_saying", zaT n⟩) XN zby { nx:=fun _ G'=>Q .non G',rt:=Q } [some (.ref d),some (.ref r),some (.int m),none,none,none] G
 simp only [zby]
 ((try dsimp only [zaf,semS,semE,semT,sem,mkE,mkB,blE,truE,semA,semO,semG,zab,semI,semC,conW,intR,blR,negR,gZ,gS,tZ,tS]);try simp only [cmpR,zbM,e1,e8,e9,lenS,lenW,gr,List.length_map])
 by_cases hm1:m=1
 .subst hm1
  rw [if_pos (by simp)]
  refine ⟨d,l,xs.length,rfl,D,⟨by omega,by omega⟩,fun i G1 i0 i1 kp D1=>?_⟩
  obtain ⟨x,_,ex⟩:=zk9 i0 i1
  refine ixL (zac (kp _ _ hr gr)) ?_
  rw [ex]
  exact ⟨z2,h (.say x) G1 (by show ((1:Nat):Int)<=1;decide) kp D1⟩
 rw [if_neg (by simpa using hm1)]
 refine ⟨d,l,4,rfl,D,by decide,fun way G1 w0 w1 kp1 D1=>?_⟩
 have gr1:=kp1 _ _ hr gr
 (try dsimp only [zaf,semS,semE,semT,sem,mkE,mkB,blE,truE,semA,semO,semG,zab,semI,semC,conW,intR,blR,negR,gZ,gS,tZ,tS])
 have hnot:zaf (GamR K C 9 ⟨"_law_saying", zaT n⟩) XN (.cons (.ret (.tup (.cons (.con (.str "not")) (.cons (.call 9 (.cons (.var 0) (.cons (.var 1) (.cons (.bin .Sub (.var 2) (.con (.int 1))) .nil)))) .nil)))) .nil) { nx:=fun _ G'=>Q .non G',rt:=Q } [some (.ref d),some (.ref r),some (.int m),some (.int way),none,none] G1:=by
  ((try dsimp only [zaf,semS,semE,semT,sem,mkE,mkB,blE,truE,semA,semO,semG,zab,semI,semC,conW,intR,blR,negR,gZ,gS,tZ,tS]);try simp only [binR,e9])
  refine ⟨d,l,r,m - 1,xs,rfl,D1,hr,gr1,hx,hxl,by omega,by omega,by omega,fun t G2 hs kp2 D2=>⟨z2,h (.not t) G2 ?_ (kp1.trans kp2) D2⟩⟩
  show ((t.size+1:Nat):Int)<=m
  omega
 (try dsimp only [zaf,semS,semE,semT,sem,mkE,mkB,blE,truE,semA,semO,semG,zab,semI,semC,conW,intR,blR,negR,gZ,gS,tZ,tS] at hnot)
 by_cases hm2:m=2
 .subst hm2
  simp only [decide_true,if_true]
  exact hnot
 simp only [decide_eq_false hm2,zzB,if_false,zbM]
 by_cases hw:way=3
 .subst hw
  simp only [decide_true,if_true]
  exact hnot
 simp only [decide_eq_false hw,zzB,if_false,binR]
 refine ⟨d,l,m - 2,rfl,D1,⟨by omega,by omega⟩,fun i G2 i0 i1 kp2 D2=>?_⟩
 have gr2:=kp2 _ _ hr gr1
 ((try dsimp only [zaf,semS,semE,semT,sem,mkE,mkB,blE,truE,semA,semO,semG,zab,semI,semC,conW,intR,blR,negR,gZ,gS,tZ,tS]);try simp only [e9])
 refine ⟨d,l,r,1+i,xs,rfl,D2,hr,gr2,hx,hxl,by omega,by omega,by omega,fun a G3 ha kp3 D3=>?_⟩
 have gr3:=kp3 _ _ hr gr2
 ((try dsimp only [zaf,semS,semE,semT,sem,mkE,mkB,blE,truE,semA,semO,semG,zab,semI,semC,conW,intR,blR,negR,gZ,gS,tZ,tS]);try simp only [zzC,zzL,zzA,Nat.reduceAdd,z3,true_and])
 intro p hp
 have D4:=zaA (o:=.lst [.str "and", .str "or", .str "if"]) hp D3
 have k4:Keep [d,l] G3 (put G3 p (.lst [.str "and", .str "or", .str "if"])):=Keep.new hp
 have gr4:=k4 _ _ hr gr3
 refine ixL (zac zad) ?_
 have kp4:=((kp1.trans kp2).trans kp3).trans k4
 have fin:∀ (x:Str) (mk:Sy->Sy->Sy),(∀ a b,(mk a b).w=.tup [.str x,a.w,b.w])->(∀ a b,(mk a b).size=a.size+b.size+1) ->
   zaT n [.ref d,.ref r,.int (m - 1 - (1+i))] (put G3 p (.lst [.str "and", .str "or", .str "if"])) (fun b G5=>Q (.tup [.str x,a.w,b]) G5) XN:=fun x mk ew es =>
  ⟨d,l,r,m - 1 - (1+i),xs,rfl,D4,hr,gr4,hx,hxl,by omega,by omega,by omega,fun b G5 hb kp5 D5=>by
   show Q (.tup [.str x,a.w,b.w]) G5
   rw [← ew]
   refine h (mk a b) G5 ?_ (kp4.trans kp5) D5
   rw [es]
   omega⟩
 have hc:way=0\/way=1\/way=2:=by omega
 rcases hc with rfl | rfl | rfl
 .rw [at_0];((try dsimp only [zaf,semS,semE,semT,sem,mkE,mkB,blE,truE,semA,semO,semG,zab,semI,semC,conW,intR,blR,negR,gZ,gS,tZ,tS]);try simp only [e9,binR,z3,true_and]);exact fin "and" .and (fun _ _=>rfl) fun _ _=>rfl
 .rw [at_1];((try dsimp only [zaf,semS,semE,semT,sem,mkE,mkB,blE,truE,semA,semO,semG,zab,semI,semC,conW,intR,blR,negR,gZ,gS,tZ,tS]);try simp only [e9,binR,z3,true_and]);exact fin "or" .or (fun _ _=>rfl) fun _ _=>rfl
 .rw [at_2];((try dsimp only [zaf,semS,semE,semT,sem,mkE,mkB,blE,truE,semA,semO,semG,zab,semI,semC,conW,intR,blR,negR,gZ,gS,tZ,tS]);try simp only [e9,binR,z3,true_and]);exact fin "if" .ite (fun _ _=>rfl) fun _ _=>rfl
end
end K23
set_option Elab.async false
set_option linter.all false
set_option maxRecDepth 100000
set_option maxHeartbeats 8000000
namespace K23
open PySem PySem.Spec PyProof.Rows L2 L3
theorem zoi {items:List W} {stab:Hw->Prop} {G1:Hw} {turn:W->Hw->(Option W->Hw->Prop)->Prop} {Q:Q3} (hs:∀ G',Keep [] G1 G'->stab G') (hl:items.length<=sizeLine)
  (ht:∀ w∈items,∀ (G':Hw) (K':Option W->Hw->Prop),Keep [] G1 G'->(∀ G'',Keep [] G' G''->K' (some (.bl true)) G'')->turn w G' K')
  (hq:∀ p G',Keep [] G1 G'->G' p=none->Q (.ref p) (put G' p (.lst (List.replicate items.length (.bl true))))):lcR items stab G1 turn Q:=by
 refine ⟨fun i acc G'=>Keep [] G1 G'/\acc=List.replicate i (.bl true),⟨Keep.refl,rfl⟩,?_,hl,?_,?_⟩
 .rintro i acc G' ⟨kp,rfl⟩ _
  exact ⟨hs G' kp,by simp⟩
 .rintro i w acc G' hw ⟨kp,rfl⟩
  exact ht w (List.mem_of_getElem? hw) G' _ kp fun G'' k''=>⟨kp.trans k'',by rw [List.replicate_succ']⟩
 .rintro acc G' ⟨kp,rfl⟩ p hp
  exact hq p G' kp hp
theorem zh1:∀ {ws:List W} {z:W},z∈List.zipWith (fun a b=>W.tup [a,b]) ws ws->∃ w∈ws,z=.tup [w,w]
 |x::ws,z,h=>by
  rw [List.zipWith_cons_cons] at h
  rcases List.mem_cons.mp h with rfl | h
  .exact ⟨x,List.mem_cons_self,rfl⟩
  .obtain ⟨w,hw,e⟩:=zh1 h
   exact ⟨w,List.mem_cons_of_mem _ hw,e⟩
theorem znp {G:Hw} {a b:Bool}:eqG G (.bl a) (.bl b)=some (a==b):=by simp [eqG,pur,dep,eqW]
section
variable {K : Frg} {C : Addr}
theorem kA1:PySem.W.kitAny K (.type "str") [.type "list", .type "tuple"]=some false:=by rfl
theorem kA2:PySem.W.kitAny K (.type "tuple") [.type "list", .type "tuple"]=some true:=by rfl
theorem kA3:PySem.W.kitAny K (.type "list") [.type "list", .type "tuple"]=some true:=by rfl
theorem kO1:PySem.W.kitOne K (.type "tuple") (.type "list")=some false:=by rfl
theorem kO2:PySem.W.kitOne K (.type "tuple") (.type "tuple")=some true:=by rfl
theorem kO3:PySem.W.kitOne K (.type "list") (.type "list")=some true:=by rfl
theorem kO4:PySem.W.kitOne K (.type "list") (.type "tuple")=some false:=by rfl
theorem kO5:PySem.W.kitOne K (.type "str") (.type "str")=some true:=by rfl
theorem isj1 {x:W} {T' T:String} {b:Bool} {G:Hw} {Q:Q3} (h1:tyO G x=some T') (h2:PySem.W.kitOne K (.type T') (.type T)=some b) (h:Q (.bl b) G):isjS K [x,.ty T] G Q:=⟨T',b,h1,h2,h⟩
theorem isj2 {x:W} {T':String} {b:Bool} {G:Hw} {Q:Q3} (h1:tyO G x=some T') (h2:PySem.W.kitAny K (.type T') [.type "list", .type "tuple"]=some b) (h:Q (.bl b) G):isjS K [x,.tup [.ty "list", .ty "tuple"]] G Q:=⟨T',b,["list", "tuple"],h1,rfl,h2,h⟩
theorem zlh {n:Nat} {ws:List W} {G:Hw} {Q:Q3} (h:zaP (n+1) ws G Q XN):zaf (GamR K C 13 ⟨"_law_alike", zaP n⟩) XN zbT { nx:=fun _ G'=>Q .non G',rt:=Q } (zap zcD ws) G:=by
 obtain ⟨x,y,rfl,sm,h⟩:=h
 have e1:(GamR K C 13 ⟨"_law_alike", zaP n⟩).fn[1]?=some eLen:=rfl
 have e2:(GamR K C 13 ⟨"_law_alike", zaP n⟩).fn[2]?=some eAll:=rfl
 have e4:(GamR K C 13 ⟨"_law_alike", zaP n⟩).fn[4]?=some (eIsj K):=rfl
 have e13:(GamR K C 13 ⟨"_law_alike", zaP n⟩).fn[13]?=some ⟨"_law_alike", zaP n⟩:=rfl
 have i1:(GamR K C 13 ⟨"_law_alike", zaP n⟩).it[1]?=some eZpi:=rfl
 have g1:(GamR K C 13 ⟨"_law_alike", zaP n⟩).gl[0]?=some (("str" : Str),W.ty "str"):=rfl
 have g2:(GamR K C 13 ⟨"_law_alike", zaP n⟩).gl[1]?=some (("tuple" : Str),W.ty "tuple"):=rfl
 have g3:(GamR K C 13 ⟨"_law_alike", zaP n⟩).gl[2]?=some (("list" : Str),W.ty "list"):=rfl
 have z2:=sz 2 (by decide)
 show zaf (GamR K C 13 ⟨"_law_alike", zaP n⟩) XN zbT { nx:=fun _ G'=>Q .non G',rt:=Q } [some x,some y] G
 simp only [zbT]
 refine stp ?_
 ((try dsimp only [semS,semE,semT,sem,mkE,mkB,blE,truE,semA,semO,semG,zab,semI,semC,conW,intR,blR,negR,gZ,gS,tZ,tS]);try simp only [e4,g2,g3,zzC,zzL,zzA,Nat.reduceAdd,z2,true_and])
 have data:(∃ z,x=.str z/\y=.str z)\/∃ (T:String) (a b:Bool) (l:List W),tyO G x=some T/\tyO G y=some T/\PySem.W.kitAny K (.type T) [.type "list", .type "tuple"]=some true/\PySem.W.kitOne K (.type T) (.type "list")=some a/\PySem.W.kitOne K (.type T) (.type "tuple")=some b /\
   (∀ G',Keep [] G G'->za8 G' x=some l/\za8 G' y=some l)/\lenW G x=some l.length/\lenW G y=some l.length/\sts l=true/\deps l<n/\l.length<=1000:=by
  rcases sm with ⟨rfl,hs,hd⟩ | ⟨p,q,l,rfl,rfl,ep,eq,hs,hd,hl⟩
  .cases x with
   |str z=>exact .inl ⟨z,rfl,rfl⟩
   |tup l =>
    replace hs:=zbW.mp hs
    simp only [dep] at hd
    exact .inr ⟨"tuple", false,true,l,rfl,rfl,kA2,kO1,kO2,fun G' _=>⟨rfl,rfl⟩,rfl,rfl,hs.2,by omega,hs.1⟩
   |_=>cases hs
  .have one:∀ r,zav G r=some l->tyO G (.ref r)=some "list" /\ lenW G (.ref r)=some l.length/\∀ G',Keep [] G G'->zav G' r=some l:=fun r er=>by
    unfold zav at er
    split at er
    .rename_i e;cases er;exact ⟨by simp only [tyO,e],by simp only [lenW,e],fun G' kp=>by unfold zav;rw [kp _ _ (by simp) e]⟩
    .rename_i e;cases er;exact ⟨by simp only [tyO,e],by simp only [lenW,e],fun G' kp=>by unfold zav;rw [kp _ _ (by simp) e]⟩
    .cases er
   obtain ⟨a1,a2,a3⟩:=one p ep
   obtain ⟨b1,b2,b3⟩:=one q eq
   exact .inr ⟨"list", true,false,l,a1,b1,kA3,kO3,kO4,fun G' kp=>⟨a3 G' kp,b3 G' kp⟩,a2,b2,hs,by omega,hl⟩
 rcases data with ⟨z,rfl,rfl⟩ | ⟨T,a,b,l,tx,ty,k1,k2,k3,sq,lx,ly,hl,hd,hn⟩
 .refine isj2 rfl kA1 ?_
  simp only [truW,zzB,if_false]
  refine stn (Γ:=GamR K C 13 ⟨"_law_alike", zaP n⟩) (E:=XN) ?_
  refine stp ?_
  ((try dsimp only [semS,semE,semT,sem,mkE,mkB,blE,truE,semA,semO,semG,zab,semI,semC,conW,intR,blR,negR,gZ,gS,tZ,tS]);try simp only [e4,g1])
  refine isj1 rfl kO5 ?_
  ((try dsimp only [semS,semE,semT,sem,mkE,mkB,blE,truE,semA,semO,semG,zab,semI,semC,conW,intR,blR,negR,gZ,gS,tZ,tS]);try simp only [if_true,cmpR,zah,beq_self_eq_true])
  exact h G Keep.refl
 .refine isj2 ty k1 ?_
  simp only [truW,if_true]
  refine stp ?_
  ((try dsimp only [semS,semE,semT,sem,mkE,mkB,blE,truE,semA,semO,semG,zab,semI,semC,conW,intR,blR,negR,gZ,gS,tZ,tS]);try simp only [e4,g2,g3])
  refine isj1 tx k2 ?_
  refine isj1 ty k2 ?_
  simp only [cmpR,znp,beq_self_eq_true,Bool.not_true,zzB,if_false]
  refine isj1 tx k3 ?_
  refine isj1 ty k3 ?_
  simp only [cmpR,znp,beq_self_eq_true,Bool.not_true,zzB,if_false]
  refine stn (Γ:=GamR K C 13 ⟨"_law_alike", zaP n⟩) (E:=XN) ?_
  refine stp ?_
  ((try dsimp only [semS,semE,semT,sem,mkE,mkB,blE,truE,semA,semO,semG,zab,semI,semC,conW,intR,blR,negR,gZ,gS,tZ,tS]);try simp only [e1,e2,lenS,lx,ly,cmpR,zbM,decide_true,if_true,i1])
  refine ⟨l,l,(sq G Keep.refl).1,(sq G Keep.refl).2,?_⟩
  refine zoi sq (by rw [List.length_zipWith,Nat.min_self];exact sz _ hn) (fun w hw G' K' kp hK=>?_) (fun p G' kp hp=>?_)
  .obtain ⟨v,hv,rfl⟩:=zh1 hw
   simp only [capS,List.length_cons,List.length_nil,List.replicate,List.map_nil,List.append_nil]
   ((try dsimp only [zaf,semS,semE,semT,sem,mkE,mkB,blE,truE,semA,semO,semG,zab,semI,semC,conW,intR,blR,negR,gZ,gS,tZ,tS]);try simp only [e13,if_true])
   exact ⟨v,v,rfl,.inl ⟨rfl,zas hl hv,Nat.lt_of_le_of_lt (zc2 hv) hd⟩,fun G'' k''=>hK G'' k''⟩
  .simp only [allS]
   refine ⟨List.replicate (List.zipWith (fun a b=>W.tup [a,b]) l l).length true,zac (by rw [zad,List.map_replicate]),?_⟩
   have:(List.replicate (List.zipWith (fun a b=>W.tup [a,b]) l l).length true).all id=true:=by
    rw [List.all_eq_true]
    intro x hx
    exact (List.mem_replicate.mp hx).2
   rw [this]
   exact h _ (kp.trans (Keep.new hp))
end
end K23
set_option Elab.async false
set_option linter.all false
set_option maxRecDepth 100000
set_option maxHeartbeats 8000000
namespace K23
open PySem PySem.Spec PyProof.Rows L2 L3
theorem zmG (f:W->Option W) (hf:∀ w x,f w=some x->x=w) (ts:List Sy):∃ us:List Sy,(ts.map Sy.w).filterMap f=us.map Sy.w/\us.length<=ts.length/\∀ t∈us,t∈ts:=by
 induction ts with
 |nil=>exact ⟨[],rfl,Nat.le_refl _,fun _ h=>h⟩
 |cons t ts ih =>
  obtain ⟨us,e,hl,hm⟩:=ih
  rw [List.map_cons]
  cases q:f t.w with
  |none=>rw [List.filterMap_cons_none q];exact ⟨us,e,by simp;omega,fun x hx=>List.mem_cons_of_mem _ (hm x hx)⟩
  |some x =>
   rw [List.filterMap_cons_some q,hf _ _ q]
   refine ⟨t::us,by rw [e];rfl,by simp;omega,fun x hx=>?_⟩
   rcases List.mem_cons.mp hx with rfl | hx
   .exact List.mem_cons_self
   .exact List.mem_cons_of_mem _ (hm x hx)
theorem zl5 {ts us ys:List Sy} (h:ts.Nodup) (hu:us.Nodup) (e:(us.map Sy.w).filterMap (fun w=>if ((ts.map Sy.w).any fun z=>eqW z w)=true then none else some w)=ys.map Sy.w) (ym:∀ y∈ys,y∈us):(ts++ys).Nodup:=by
 have key:∀ y∈ys,y∉ts:=fun y hy ht=>by
  have hm:y.w∈ys.map Sy.w:=List.mem_map.mpr ⟨y,hy,rfl⟩
  rw [← e] at hm
  obtain ⟨w,_,hw⟩:=List.mem_filterMap.mp hm
  split at hw
  .cases hw
  .rename_i hn
   cases hw
   exact hn (Sy.any.mpr ht)
 have ny:ys.Nodup:=by
  refine zl9 (f:=Sy.w) ?_
  rw [← e]
  refine List.Pairwise.filterMap _ (fun a a' n b hb b' hb'=>?_) (zb7 (fun _ _=>Sy.inj) hu)
  have e1:b=a:=by split at hb <;> cases hb;rfl
  have e2:b'=a':=by split at hb' <;> cases hb';rfl
  rw [e1,e2];exact n
 rw [List.nodup_append]
 exact ⟨h,ny,fun a ha b hb e=>key b hb (e▸ha)⟩
def sums:List Sy->Nat
 | []=>0
 |k::ks=>k.size+sums ks
section
variable {K : Frg} {C : Addr}
theorem zke {n:Nat} {ws:List W} {G:Hw} {Q:Q3} (h:zaB (n+1) ws G Q XN):zaf (GamR K C 11 ⟨"_law_all_parts", zaB n⟩) XN zbb { nx:=fun _ G'=>Q .non G',rt:=Q } (zap zbr ws) G:=by
 obtain ⟨t,rfl,tn,t21,h⟩:=h
 have e5:(GamR K C 11 ⟨"_law_all_parts", zaB n⟩).fn[5]?=some eSrt:=rfl
 have e11:(GamR K C 11 ⟨"_law_all_parts", zaB n⟩).fn[11]?=some ⟨"_law_all_parts", zaB n⟩:=rfl
 have z1:=sz 1 (by decide)
 show zaf (GamR K C 11 ⟨"_law_all_parts", zaB n⟩) XN zbb { nx:=fun _ G'=>Q .non G',rt:=Q } [some t.w,none,none] G
 simp only [zbb]
 ((try dsimp only [zaf,semS,semE,semT,sem,mkE,mkB,blE,truE,semA,semO,semG,zab,semI,semC,conW,intR,blR,negR,gZ,gS,tZ,tS]);try simp only [zzC,zzL,zzA,Nat.reduceAdd,z1,true_and])
 intro f0 hf0
 have fin:∀ (G':Hw) (f:Addr) (ts:List Sy),Keep [] G G'->G' f=some (.lst (ts.map Sy.w))->(∀ x∈ts,x.size<=t.size)->ts.length<=t.size->ts.Nodup->zfZ [.ref f] G' Q:=fun G' f ts kp gf hs hl hnd=>by
  refine ⟨ts.map Sy.w,zac gf,srtb (by omega) (fun x hx=>by have:=hs x hx;omega),fun r hr=>?_⟩
  obtain ⟨us,eu,lu,su⟩:=zhh ts
  rw [eu]
  exact h us (su _ hs) (by omega) (zpu eu hnd) r _ (kp.trans (Keep.new hr)) (kp.none (by simp) hr) zad
 have k0:Keep [] G (put G f0 (.lst [t.w])):=Keep.new hf0
 have loop:∀ (D:End3) (ks:List Sy),(∀ σ G',(∃ (f:Addr) (ts:List Sy) (v:Option W),σ=[some t.w,some (.ref f),v]/\Keep [] G G'/\G' f=some (.lst (ts.map Sy.w))/\(∀ x∈ts,x.size<=t.size)/\ts.length<=t.size/\ts.Nodup)->D.nx σ G')->sums ks+1<=t.size->(∀ k∈ks,k.size<=n)->(∀ k∈ks,k.size<t.size) ->
   forR (ks.map Sy.w) (fun _=>True) D [some t.w,some (.ref f0),none] (put G f0 (.lst [t.w]))
    (fun w D' σ' G'=>semG (.nm 2) w σ' G' fun σ2 G2=>zaf (GamR K C 11 ⟨"_law_all_parts", zaB n⟩) XN (.cons (.asg 1 (.bin .Add (.var 1) (.lc (.nm 0) ["_law_one"] [1] (.val (.call 11 (.cons (.var 2) .nil))) (.yes (.cmp .NotIn (.var 0) (.var 1))) (.var 0)))) .nil) D' σ2 G2):=by
  intro D ks hD hk hn hlt
  refine ⟨fun i σ G'=>∃ (f:Addr) (ts:List Sy) (v:Option W),σ=[some t.w,some (.ref f),v]/\Keep [] G G'/\G' f=some (.lst (ts.map Sy.w))/\(∀ x∈ts,x.size<=t.size)/\ts.length<=sums (ks.take i)+1/\ts.Nodup,⟨f0,[t],none,rfl,k0,zad,by simp,by simp [sums],by simp⟩,fun _ _ _ _ _=>trivial,?_,?_⟩
  .rintro i w σ G' hw ⟨f,ts,v,rfl,kp,gf,hs,hl,hnd⟩
   rw [List.getElem?_map] at hw
   obtain ⟨k,hki,rfl⟩:=Option.map_eq_some_iff.mp hw
   have hkm:=List.mem_of_getElem? hki
   ((try dsimp only [zaf,semS,semE,semT,sem,mkE,mkB,blE,truE,semA,semO,semG,zab,semI,semC,conW,intR,blR,negR,gZ,gS,tZ,tS]);try simp only [e11,semI,semC])
   refine ⟨k,rfl,hn k hkm,by have:=hlt k hkm;omega,fun us hus hul hund r G2 kp2 hr gr=>?_⟩
   have gf2:=kp2 _ _ (by simp) gf
   simp only [zbc,zac gr]
   refine zcb (fun w=>if ((ts.map Sy.w).any fun z=>eqW z w)=true then none else some w) (zac gr) (by rw [List.length_map];exact sz _ (by have:=hlt k hkm;omega)) ?_ ?_
   .intro w hw K' hK
    obtain ⟨u,hu,rfl⟩:=List.mem_map.mp hw
    simp only [capS,List.length_cons,List.length_nil,List.replicate,List.map_cons,List.map_nil,List.cons_append,List.nil_append,List.append_nil]
    ((try dsimp only [zaf,semS,semE,semT,sem,mkE,mkB,blE,truE,semA,semO,semG,zab,semI,semC,conW,intR,blR,negR,gZ,gS,tZ,tS]);try simp only [cmpR,memR,L3.inR,Option.join_some,if_true,gf2])
    refine ⟨⟨u.pur,zdu ts,?_⟩,?_⟩
    .have:=Sy.dep u
     have:=hus u hu
     have:=hlt k hkm
     omega
    .revert hK
     cases (ts.map Sy.w).any fun z=>eqW z u.w <;> simp
   .intro p hp
    obtain ⟨ys,ey,yl,ym⟩:=zmG (fun w=>if ((ts.map Sy.w).any fun z=>eqW z w)=true then none else some w) (fun w x e=>by split at e <;> cases e;rfl) us
    rw [ey]
    have hpf:p≠f:=by rintro rfl;rw [gf2] at hp;cases hp
    simp only [binR,zau (Ne.symm hpf),gf2,zad]
    have hsum:sums (ks.take (i+1))=sums (ks.take i)+k.size:=by
     have hi:i<ks.length:=(List.getElem?_eq_some_iff.mp hki).1
     have e:ks[i]=k:=(List.getElem?_eq_some_iff.mp hki).2
     rw [List.take_succ_eq_append_getElem hi,e]
     have:∀ l:List Sy,sums (l++[k])=sums l+k.size:=fun l=>by
      induction l with
      |nil=>simp [sums]
      |cons a l ih=>simp only [List.cons_append,sums,ih];omega
     exact this _
    have hle:∀ (l:List Sy) (j:Nat),sums (l.take j)<=sums l:=fun l=>by
     induction l with
     |nil=>intro j;simp [sums]
     |cons a l ih =>
      intro j
      cases j with
      |zero=>simp [sums]
      |succ j=>simp only [List.take_succ_cons,sums];have:=ih j;omega
    have hb:=hle ks i
    refine ⟨by rw [List.length_map,List.length_map];exact sz _ (by have:=hlt k hkm;omega),fun r' hr'=>⟨r',ts++ys,_,rfl,?_,by rw [zad,List.map_append],?_,?_,?_⟩⟩
    .exact ((kp.trans kp2).trans (Keep.new hp)).trans (Keep.new hr')
    .intro x hx
     rcases List.mem_append.mp hx with hx | hx
     .exact hs x hx
     .have:=hus x (ym x hx);have:=hlt k hkm;omega
    .rw [List.length_append,hsum];omega
    .exact zl5 hnd hund ey ym
  .rintro σ G' ⟨f,ts,v,rfl,kp,gf,hs,hl,hnd⟩
   refine hD _ _ ⟨f,ts,v,rfl,kp,gf,hs,?_,hnd⟩
   rw [List.length_map,List.take_length] at hl
   omega
 have pos:=t.pos
 have end_:∀ (σ:St3) (G':Hw),(∃ (f:Addr) (ts:List Sy) (v:Option W),σ=[some t.w,some (.ref f),v]/\Keep [] G G'/\G' f=some (.lst (ts.map Sy.w))/\(∀ x∈ts,x.size<=t.size)/\ts.length<=t.size/\ts.Nodup)->zaf (GamR K C 11 ⟨"_law_all_parts", zaB n⟩) XN (.cons (.ret (.call 5 (.cons (.var 1) .nil))) .nil) { nx:=fun _ G'=>Q .non G',rt:=Q } σ G':=by
  rintro σ G' ⟨f,ts,v,rfl,kp,gf,hs,hl,hnd⟩
  ((try dsimp only [zaf,semS,semE,semT,sem,mkE,mkB,blE,truE,semA,semO,semG,zab,semI,semC,conW,intR,blR,negR,gZ,gS,tZ,tS]);try simp only [e5])
  exact fin G' f ts kp gf hs hl hnd
 ((try dsimp only [zaf,semS,semE,semT,sem,mkE,mkB,blE,truE,semA,semO,semG,zab,semI,semC,conW,intR,blR,negR,gZ,gS,tZ,tS] at end_ loop);try simp only [e5] at end_ loop)
 cases t with
 |say x =>
  simp only [Sy.w]
  ((try dsimp only [zaf,semS,semE,semT,sem,mkE,mkB,blE,truE,semA,semO,semG,zab,semI,semC,conW,intR,blR,negR,gZ,gS,tZ,tS]);try simp only [ixR,at_0,cmpR,zah,beq_self_eq_true,Bool.not_true,zzB,if_false,e5])
  exact fin _ f0 [.say x] k0 zad (by simp) (Nat.le_refl _) (by simp)
 |not a =>
  simp only [Sy.size] at tn loop
  simp only [Sy.w] at loop ⊢
  ((try dsimp only [zaf,semS,semE,semT,sem,mkE,mkB,blE,truE,semA,semO,semG,zab,semI,semC,conW,intR,blR,negR,gZ,gS,tZ,tS]);try simp only [ixR,at_0,cmpR,zah,zch,Bool.not_false,if_true,semI,slR,e5])
  rw [cut2]
  simp only [zbc]
  exact loop _ [a] (fun σ G' z=>end_ σ G' z) (by simp [sums]) (by simp;omega) (by simp)
 |and a b =>
  simp only [Sy.size] at tn loop
  simp only [Sy.w] at loop ⊢
  ((try dsimp only [zaf,semS,semE,semT,sem,mkE,mkB,blE,truE,semA,semO,semG,zab,semI,semC,conW,intR,blR,negR,gZ,gS,tZ,tS]);try simp only [ixR,at_0,cmpR,zah,zci,Bool.not_false,if_true,semI,slR,e5])
  rw [cut3]
  simp only [zbc]
  exact loop _ [a,b] (fun σ G' z=>end_ σ G' z) (by simp [sums]) (by simp;omega) (by simp;omega)
 |or a b =>
  simp only [Sy.size] at tn loop
  simp only [Sy.w] at loop ⊢
  ((try dsimp only [zaf,semS,semE,semT,sem,mkE,mkB,blE,truE,semA,semO,semG,zab,semI,semC,conW,intR,blR,negR,gZ,gS,tZ,tS]);try simp only [ixR,at_0,cmpR,zah,zcT,Bool.not_false,if_true,semI,slR,e5])
  rw [cut3]
  simp only [zbc]
  exact loop _ [a,b] (fun σ G' z=>end_ σ G' z) (by simp [sums]) (by simp;omega) (by simp;omega)
 |ite a b =>
  simp only [Sy.size] at tn loop
  simp only [Sy.w] at loop ⊢
  ((try dsimp only [zaf,semS,semE,semT,sem,mkE,mkB,blE,truE,semA,semO,semG,zab,semI,semC,conW,intR,blR,negR,gZ,gS,tZ,tS]);try simp only [ixR,at_0,cmpR,zah,zcU,Bool.not_false,if_true,semI,slR,e5])
  rw [cut3]
  simp only [zbc]
  exact loop _ [a,b] (fun σ G' z=>end_ σ G' z) (by simp [sums]) (by simp;omega) (by simp;omega)
end
end K23
set_option Elab.async false
set_option linter.all false
set_option maxRecDepth 100000
set_option maxHeartbeats 8000000
namespace K23
open PySem PySem.Spec PyProof.Rows L2 L3
theorem Sy.st:∀ t:Sy,L3.st t.w=true
 | .say _=>by simp [Sy.w,L3.st,sts]
 | .not a=>by simp [Sy.w,L3.st,sts,Sy.st a]
 | .and a b=>by simp [Sy.w,L3.st,sts,Sy.st a,Sy.st b]
 | .or a b=>by simp [Sy.w,L3.st,sts,Sy.st a,Sy.st b]
 | .ite a b=>by simp [Sy.w,L3.st,sts,Sy.st a,Sy.st b]
theorem zfC (t:Sy):(kid1 t).size<=t.size:=by cases t <;> simp only [kid1,Sy.size] <;> omega
theorem zom (t:Sy):(kid2 t).size<=t.size:=by cases t <;> simp only [kid2,Sy.size] <;> omega
theorem zd8 {x:Str} {t:Sy}:∃ us:List Sy,ans x t=us.map Sy.w/\us.length<=2/\∀ u∈us,u.size<=t.size:=by
 have h1:=zfC t
 have h2:=zom t
 unfold ans
 split
 .exact ⟨[t],rfl,by simp,by simp⟩
 .split
  .exact ⟨[kid1 t],rfl,by simp,by simpa using h1⟩
  .split
   .exact ⟨[kid2 t],rfl,by simp,by simpa using h2⟩
   .split
    .obtain ⟨us,eu,lu,su⟩:=zhh [kid1 t,kid2 t]
     have su:=su t.size (by simp;exact ⟨h1,h2⟩)
     obtain ⟨a,b,rfl⟩:∃ a b,us=[a,b]:=by
      match us,lu with
      | [a,b],_=>exact ⟨a,b,rfl⟩
     have eu:srt [(kid1 t).w,(kid2 t).w]=[a.w,b.w]:=eu
     unfold once
     rw [eu]
     unfold zhy
     dsimp only
     split
     .exact ⟨[a],rfl,by simp,by simpa using su a (by simp)⟩
     .exact ⟨[a,b],rfl,by simp,su⟩
    .exact ⟨[],rfl,by simp,by simp⟩
def tl:ISs->ISs
 | .cons _ ss=>ss
 | .nil=>.nil
theorem ix0 {a:W} {l:List W} {G:Hw} {Q:Q3}:ixR (.tup (a::l)) (.int 0) G Q=Q a G:=by simp only [ixR,at_0]
theorem ix1 {a b:W} {l:List W} {G:Hw} {Q:Q3}:ixR (.tup (a::b::l)) (.int 1) G Q=Q b G:=by simp only [ixR,at_1]
end K23
set_option Elab.async false
set_option linter.all false
set_option maxRecDepth 100000
set_option maxHeartbeats 8000000
namespace K23
open PySem PySem.Spec PyProof.Rows L2 L3
abbrev abc:Str := "abcdefghijklmnopqrstuvwxyz"
theorem zhY:abc.cps.toList.length=26:=by decide +kernel
theorem zqC {i:Int} {G:Hw} {Q:Q3} (h0:0<=i) (h1:i<26) (h:∀ x:Str,x.length=1->Q (.str x) G):ixR (.str abc) (.int i) G Q:=by
 have hi:i.toNat<abc.cps.toList.length:=by rw [zhY];omega
 have e:atI abc.cps.toList i=some abc.cps.toList[i.toNat]:=by
  unfold atI ixN
  rw [if_pos h0,zhY,if_pos (show i<((26:Nat):Int) from h1)]
  exact List.getElem?_eq_getElem hi
 simp only [ixR,e]
 refine ⟨?_,h _ rfl⟩
 have:abc.length=26:=by rw [← zhY];rfl
 rw [this]
 exact sz _ (by decide)
theorem zdk {G:Hw} {d l p:Addr} (D:Deal G d l) (h:G p=none):p∉[d,l]:=by
 obtain ⟨_,_,_,D⟩:=D
 simp only [List.mem_cons,List.not_mem_nil,or_false,not_or]
 refine ⟨fun e=>?_,fun e=>?_⟩
 .rw [e,D.dic] at h;cases h
 .rw [e,D.lst] at h;cases h
theorem zkF {S:List Addr} {G G':Hw} {p:Addr} {o:O} (k:Keep S G G') (h:G p=none):Keep S G (put G' p o):=fun a u ha e=>by
 rw [zau (zba e h)]
 exact k a u ha e
theorem zkV {G:Hw} {d l p:Addr} {o:O} (h:p∉[d,l]) (D:Deal G d l):Deal (put G p o) d l:=by
 simp only [List.mem_cons,List.not_mem_nil,or_false,not_or] at h
 exact zcc (S:=[p]) (Keep.put (by simp)) (by simpa using Ne.symm h.1) (by simpa using Ne.symm h.2) D
theorem addS {a b:Str} {G:Hw} {Q:Q3} (h:a.length+b.length<=1000) (q:Q (.str (a++b)) G):binR .Add (.str a) (.str b) G Q:=⟨sz _ h,q⟩
theorem slS {x:Str} {lo hi:Option Int} {G:Hw} {Q:Q3} (h:x.length<=1000) (q:∀ y:Str,y.length<=x.length->Q (.str y) G):slR (.str x) lo hi G Q:=⟨sz _ h,q _ (Txt.slice_le x lo hi)⟩
theorem zmt {ts:List Str} (h:∀ x∈ts,x.length<=1) (hn:ts.length<=5):JoinOk "" ts=true/\(Txt.join "" ts).length<=5:=by
 have e:("" : Str).length=0:=by decide +kernel
 constructor
 .unfold JoinOk
  rw [StrLaws.joinFits h (by rw [e];omega)];rfl
 .have h1:=StrLaws.join_length_le "" ts
  have h2:=StrLaws.sumLen_le ts h
  rw [e] at h1
  rw [show Txt.join "" ts=Str.join "" ts from StrLaws.glued_eq_join "" ts]
  refine Nat.le_trans h1 ?_
  omega
section
variable {K : Frg} {C : Addr}
theorem zkl {n:Nat} (hn:10<=n) {ws:List W} {G:Hw} {Q:Q3} (h:ze8 ws G Q XN):zaf (Gam K C n) XN zaz { nx:=fun _ G'=>Q .non G',rt:=Q } (zap zcB ws) G:=by
 obtain ⟨d,l,m,rfl,D,m1,m50,h⟩:=h
 have e1:(Gam K C n).fn[1]?=some eLen:=fnA 1 hn rfl
 have e8:(Gam K C n).fn[8]?=some zhN:=fnA 8 hn rfl
 have t1:(Gam K C n).mt[1]?=some zmN:=rfl
 have t2:(Gam K C n).mt[2]?=some eApp:=rfl
 have i0:(Gam K C n).it[0]?=some eRng:=rfl
 have z0:=sz 0 (by decide)
 have z2:=sz 2 (by decide)
 have z3:=sz 3 (by decide)
 have z4:=sz 4 (by decide)
 show zaf (Gam K C n) XN zaz { nx:=fun _ G'=>Q .non G',rt:=Q } [some (.ref d),some (.int m),none,none,none,none,none,none,none,none] G
 have go:∀ (G1:Hw) (p:Addr) (core:Str),core.length<=5->G p=none->p∉[d,l]->Keep [d,l] G G1->Deal G1 d l->G1 p=some (.lst []) ->
   zaf (Gam K C n) XN (tl (tl (tl zaz))) { nx:=fun _ G'=>Q .non G',rt:=Q } [some (.ref d),some (.int m),some (.str abc),some (.ref p),some (.str core),none,none,none,none,none] G1:=by
  intro G1 p core hc hpn hp k1 D1 gp
  simp only [zaz,tl]
  refine stp ?_
  ((try dsimp only [semS,semE,semT,sem,mkE,mkB,blE,truE,semA,semO,semG,zab,semI,semC,conW,intR,blR,negR,gZ,gS,tZ,tS]);try simp only [e1,e8,lenS,lenW,sz _ (show core.length<=1000 by omega),if_true,binR])
  refine ⟨d,l,core.length+1,rfl,D1,⟨by omega,by omega⟩,fun at' G2 a0 a1 k2 D2=>?_⟩
  have gp2:=k2 _ _ hp gp
  refine stp ?_
  ((try dsimp only [semS,semE,semT,sem,mkE,mkB,blE,truE,semA,semO,semG,zab,semI,semC,conW,intR,blR,negR,gZ,gS,tZ,tS]);try simp only [e8])
  refine ⟨d,l,26,rfl,D2,by decide,fun tn G3 tn0 tn1 k3 D3=>?_⟩
  have gp3:=k3 _ _ hp gp2
  refine stp ?_
  ((try dsimp only [semS,semE,semT,sem,mkE,mkB,blE,truE,semA,semO,semG,zab,semI,semC,conW,intR,blR,negR,gZ,gS,tZ,tS]);try simp only [e8,zzC,zzL,zzA,Nat.reduceAdd,z2,true_and])
  intro q hq
  have D4:=zaA (o:=.lst [.int 7,.int 1]) hq D3
  have k4:Keep [d,l] G3 (put G3 q (.lst [.int 7,.int 1])):=Keep.new hq
  have gp4:=k4 _ _ hp gp3
  have gq4:(put G3 q (.lst [.int 7,.int 1])) q=some (.lst [.int 7,.int 1]):=zad
  have hqd:=zdk D3 hq
  generalize put G3 q (.lst [.int 7,.int 1])=G4 at D4 k4 gp4 gq4 ⊢
  refine ⟨d,l,2,rfl,D4,by decide,fun b G5 b0 b1 k5 D5=>?_⟩
  have gp5:=k5 _ _ hp gp4
  have kG:=(((k1.trans k2).trans k3).trans k4).trans k5
  refine ixL (zac (k5 _ _ hqd gq4)) ?_
  have step:∀ st:Int,0<=st->st<=7->zaf (Gam K C n) XN (tl (tl (tl (tl (tl (tl zaz)))))) { nx:=fun _ G'=>Q .non G',rt:=Q } [some (.ref d),some (.int m),some (.str abc),some (.ref p),some (.str core),some (.int at'),some (.int tn),some (.int st),none,none] G5:=by
   intro st s0 s7
   simp only [zaz,tl]
   refine stp ?_
   ((try dsimp only [semS,semE,semT,sem,mkE,mkB,blE,truE,semA,semO,semG,zab,semI,semC,conW,intR,blR,negR,gZ,gS,tZ,tS]);try simp only [semI,i0])
   refine ⟨⟨by omega,by omega⟩,?_⟩
   have len:((List.range m.toNat).map fun i:Nat=>W.int (i:Int)).length=m.toNat:=by simp
   refine ⟨fun i σ G'=>∃ (xs:List Str) (v8 v9:Option W),σ=[some (.ref d),some (.int m),some (.str abc),some (.ref p),some (.str core),some (.int at'),some (.int tn),some (.int st),v8,v9]/\G' p=some (.lst (xs.map .str))/\xs.length=i/\(∀ x∈xs,x.length<=100)/\Keep [d,l] G G'/\Deal G' d l,
    ⟨[],none,none,rfl,gp5,rfl,by simp,kG,D5⟩,fun _ _ _ _ _=>trivial,?_,?_⟩
   .rintro i w σ G' hw ⟨xs,v8,v9,rfl,gx,hl,hs,kp,D'⟩
    rw [List.getElem?_map] at hw
    obtain ⟨i',hi',rfl⟩:=Option.map_eq_some_iff.mp hw
    have him:i<m.toNat:=by have:=(List.getElem?_eq_some_iff.mp hi').1;simpa using this
    have hii:i'=i:=by have:=(List.getElem?_eq_some_iff.mp hi').2;simpa using this.symm
    subst hii
    refine stp ?_
    (try dsimp only [semS,semE,semT,sem,mkE,mkB,blE,truE,semA,semO,semG,zab,semI,semC,conW,intR,blR,negR,gZ,gS,tZ,tS])
    refine slS (by omega) fun y1 h1=>?_
    refine ⟨.inl ⟨by omega,by omega⟩,by decide,?_⟩
    refine zqC (Int.emod_nonneg _ (by decide)) (Int.emod_lt_of_pos _ (by decide)) fun y2 h2=>?_
    refine addS (by omega) (slS (by omega) fun y3 h3=>addS (by rw [Str.length_append];omega) ?_)
    have hlen:((y1++y2)++y3).length<=20:=by rw [Str.length_append,Str.length_append];omega
    generalize (y1++y2)++y3=nm at hlen ⊢
    refine stp ?_
    ((try dsimp only [semS,semE,semT,sem,mkE,mkB,blE,truE,semA,semO,semG,zab,semI,semC,conW,intR,blR,negR,gZ,gS,tZ,tS]);try simp only [cmpR,memR,L3.inR,zzB,if_false,zzC,zzL,zzA,Nat.reduceAdd,z4,true_and])
    refine ⟨⟨by simp [pur],by simp [purs,pur],by simp [deps,dep]⟩,?_⟩
    have app:∀ x:Str,x.length<=100->tyW G' (.ref p) "list" /\ appS (.ref p) [.str x] G' (fun _ G1=>∃ (xs':List Str) (v8 v9:Option W),[some (W.ref d),some (.int m),some (.str abc),some (.ref p),some (.str core),some (.int at'),some (.int tn),some (.int st),some (.int i'),some (.str x)]=[some (.ref d),some (.int m),some (.str abc),some (.ref p),some (.str core),some (.int at'),some (.int tn),some (.int st),v8,v9]/\G1 p=some (.lst (xs'.map .str))/\xs'.length=i'+1/\(∀ x∈xs',x.length<=100)/\Keep [d,l] G G1/\Deal G1 d l):=by
     intro x hx
     refine ⟨tyL gx,appL gx (by rw [List.length_map];omega) ⟨xs++[x],_,_,rfl,by rw [zad];simp,by simp [hl],fun y hy=>?_,zkF kp hpn,zkV hp D'⟩⟩
     rcases List.mem_append.mp hy with hy | hy
     .exact hs y hy
     .rw [List.mem_singleton.mp hy];exact hx
    have q1:("q" : Str).length=1:=by decide +kernel
    split
    .refine stp ?_
     (try dsimp only [semS,semE,semT,sem,mkE,mkB,blE,truE,semA,semO,semG,zab,semI,semC,conW,intR,blR,negR,gZ,gS,tZ,tS])
     refine addS (by omega) ?_
     refine stn ?_
     refine stp ?_
     ((try dsimp only [semS,semE,semT,sem,mkE,mkB,blE,truE,semA,semO,semG,zab,semI,semC,conW,intR,blR,negR,gZ,gS,tZ,tS]);try simp only [t2])
     exact app _ (by rw [Str.length_append];omega)
    .refine stn ?_
     refine stp ?_
     ((try dsimp only [semS,semE,semT,sem,mkE,mkB,blE,truE,semA,semO,semG,zab,semI,semC,conW,intR,blR,negR,gZ,gS,tZ,tS]);try simp only [t2])
     exact app _ (by omega)
   .rintro σ G' ⟨xs,v8,v9,rfl,gx,hl,hs,kp,D'⟩
    rw [len] at hl
    have fin:∀ (ys:List Str) (G'':Hw),ys.length=m.toNat->G'' p=some (.lst (ys.map .str))->Keep [d,l] G G''->Deal G'' d l->Q (.ref p) G'':=fun ys G'' hy gy ky Dy =>
     h p ys G'' (by rintro rfl;simp at hy;omega) (by omega) hp gy ky Dy
    refine stp ?_
    ((try dsimp only [semS,semE,semT,sem,mkE,mkB,blE,truE,semA,semO,semG,zab,semI,semC,conW,intR,blR,negR,gZ,gS,tZ,tS]);try simp only [cmpR,ordR])
    split
    .rename_i hm
     have hm:1<m:=by simpa using hm
     obtain ⟨x0,hx0,ex0⟩:=zk9 (xs:=xs) (i:=0) (by decide) (by omega)
     obtain ⟨x1,hx1,ex1⟩:=zk9 (xs:=xs) (i:=1) (by decide) (by omega)
     have zl:("z" : Str).length=1:=by decide +kernel
     have l0:=hs x0 hx0
     have l1:=hs x1 hx1
     refine stp ?_
     ((try dsimp only [semS,semE,semT,sem,mkE,mkB,blE,truE,semA,semO,semG,zab,semI,semC,conW,intR,blR,negR,gZ,gS,tZ,tS]);try simp only [e8])
     refine ixL (zac gx) ?_
     rw [ex0]
     refine ixL (zac gx) ?_
     rw [ex0]
     refine addS (by omega) (ixL (zac gx) ?_)
     rw [ex1]
     refine addS (by omega) ?_
     ((try dsimp only [semS,semE,semT,sem,mkE,mkB,blE,truE,semA,semO,semG,zab,semI,semC,conW,intR,blR,negR,gZ,gS,tZ,tS]);try simp only [zzC,zzL,zzA,Nat.reduceAdd,z3,true_and,e8])
     intro r hr
     have hrd:=zdk D' hr
     have D6:=zaA (o:=.lst [.str x0,.str (x0 ++ "z"),.str (x1 ++ "z")]) hr D'
     have k6:Keep [d,l] G' (put G' r (.lst [.str x0,.str (x0 ++ "z"),.str (x1 ++ "z")])):=Keep.new hr
     have gr:(put G' r (.lst [.str x0,.str (x0 ++ "z"),.str (x1 ++ "z")])) r=some (.lst [.str x0,.str (x0 ++ "z"),.str (x1 ++ "z")]):=zad
     have gx6:=k6 _ _ hp gx
     generalize put G' r (.lst [.str x0,.str (x0 ++ "z"),.str (x1 ++ "z")])=G6 at D6 k6 gr gx6 ⊢
     refine ⟨d,l,3,rfl,D6,by decide,fun c G7 c0 c1 k7 D7=>ixL (zac (k7 _ _ hrd gr)) ?_⟩
     have gx7:=k7 _ _ hp gx6
     have put_:∀ x:Str,setR (.ref p) (.int 0) (.str x) G7 fun G4=>Q (.ref p) G4:=fun x=>by
      have e0:ixN (xs.map W.str).length 0=some 0:=by
       unfold ixN
       rw [if_pos (by decide),List.length_map,if_pos (by omega)];rfl
      simp only [setR,gx7,e0]
      refine fin (xs.set 0 x) _ (by rw [List.length_set];exact hl) (by rw [zad,List.map_set]) (zkF ((kp.trans k6).trans k7) hpn) (zkV hp D7)
     have hc':c=0\/c=1\/c=2:=by omega
     rcases hc' with rfl | rfl | rfl
     .rw [at_0];exact put_ _
     .rw [at_1];exact put_ _
     .rw [at_2];exact put_ _
    .refine stn ?_
     refine stp ?_
     (try dsimp only [semS,semE,semT,sem,mkE,mkB,blE,truE,semA,semO,semG,zab,semI,semC,conW,intR,blR,negR,gZ,gS,tZ,tS])
     exact fin xs G' hl gx kp D'
  simp only [zaz,tl] at step
  have hb:b=0\/b=1:=by omega
  rcases hb with rfl | rfl
  .rw [at_0];exact step 7 (by decide) (by decide)
  .rw [at_1];exact step 1 (by decide) (by decide)
 simp only [zaz,tl] at go
 simp only [zaz]
 refine stp ?_
 (try dsimp only [semS,semE,semT,sem,mkE,mkB,blE,truE,semA,semO,semG,zab,semI,semC,conW,intR,blR,negR,gZ,gS,tZ,tS])
 refine stp ?_
 ((try dsimp only [semS,semE,semT,sem,mkE,mkB,blE,truE,semA,semO,semG,zab,semI,semC,conW,intR,blR,negR,gZ,gS,tZ,tS]);try simp only [List.length_nil,z0,true_and])
 intro p hp
 have hpd:=zdk D hp
 have D1:=zaA (o:=.lst []) hp D
 have k1:Keep [d,l] G (put G p (.lst [])):=Keep.new hp
 have gp:(put G p (.lst [])) p=some (.lst []):=zad
 generalize put G p (.lst [])=G1 at D1 k1 gp ⊢
 refine stp ?_
 ((try dsimp only [semS,semE,semT,sem,mkE,mkB,blE,truE,semA,semO,semG,zab,semI,semC,conW,intR,blR,negR,gZ,gS,tZ,tS]);try simp only [t1,e8,semI,semC,i0])
 refine ⟨rfl,d,l,5,rfl,D1,by decide,fun j G2 j0 j5 k2 D2=>?_⟩
 have gp2:=k2 _ _ hpd gp
 refine ⟨⟨by omega,by omega⟩,?_⟩
 have len:((List.range j.toNat).map fun i:Nat=>W.int (i:Int)).length=j.toNat:=by simp
 refine ⟨fun i acc G'=>∃ ts:List Str,acc=ts.map .str/\ts.length=i/\(∀ x∈ts,x.length<=1)/\Keep [d,l] G2 G'/\Deal G' d l,⟨[],rfl,rfl,by simp,Keep.refl,D2⟩,?_,by rw [len];exact sz _ (by omega),?_,?_⟩
 .rintro i acc G' ⟨ts,rfl,rfl,_,_,_⟩ _
  exact ⟨trivial,by simp⟩
 .rintro i w acc G' hw ⟨ts,rfl,hl,hs,kp,D'⟩
  simp only [capS,List.length_cons,List.length_nil,List.replicate,List.map_cons,List.map_nil,List.cons_append,List.nil_append,List.append_nil]
  ((try dsimp only [semS,semE,semT,sem,mkE,mkB,blE,truE,semA,semO,semG,zab,semI,semC,conW,intR,blR,negR,gZ,gS,tZ,tS]);try simp only [Option.join_some,if_true,e8])
  refine ⟨d,l,26,rfl,D',by decide,fun r G'' r0 r1 kp' D''=>zqC r0 r1 fun x hx=>?_⟩
  refine ⟨ts++[x],by simp,by simp [hl],fun y hy=>?_,kp.trans kp',D''⟩
  rcases List.mem_append.mp hy with hy | hy
  .exact hs y hy
  .rw [List.mem_singleton.mp hy,hx];exact Nat.le_refl _
 .rintro acc G' ⟨ts,rfl,hl,hs,kp,D'⟩ r hr
  have hl5:ts.length<=5:=by rw [hl,len];omega
  obtain ⟨jo,jl⟩:=zmt hs hl5
  refine ⟨ts,zac zad,jo,?_⟩
  have k3:Keep [d,l] G' (put G' r (.lst (ts.map .str))):=Keep.new hr
  exact go _ p _ jl hp hpd (((k1.trans k2).trans kp).trans k3) (zaA hr D') (k3 _ _ hpd (kp _ _ hpd gp2))
end
end K23
set_option Elab.async false
set_option linter.all false
set_option maxRecDepth 100000
set_option maxHeartbeats 8000000
namespace K23
open PySem PySem.Spec PyProof.Rows L2 L3
theorem zat:(("doubt" : Str) == "answer")=false:=by decide +kernel
theorem zaJ:(("answer" : Str) == "doubt")=false:=by decide +kernel
theorem ix2 {a b c:W} {l:List W} {G:Hw} {Q:Q3}:ixR (.tup (a::b::c::l)) (.int 2) G Q=Q c G:=by simp only [ixR,at_2]
theorem zbI:∀ {l:List W},(∀ w∈l,pur w=true)->purs l=true
 | [],_=>rfl
 |x::l,h=>by simp [purs,h x List.mem_cons_self,zbI fun w hw=>h w (List.mem_cons_of_mem _ hw)]
theorem zcK {n:Nat}:∀ {l:List W},(∀ w∈l,dep w<=n)->deps l<=n
 | [],_=>Nat.zero_le _
 |x::l,h=>by
  have h1:=h x List.mem_cons_self
  have h2:=zcK fun w hw=>h w (List.mem_cons_of_mem _ hw)
  simp only [deps];omega
theorem ze3 {m:Mv} (ok:m.ok):∀ s,zbm m=some s->s.size<=21:=by
 intro s e
 cases m with
 |ans x t u=>cases e;exact ok.2
 |dbt x t =>
  simp only [zbm] at e
  split at e
  .cases e;exact Nat.le_trans (zfC t) ok.2
  .cases e
theorem za6 (t:Sy):(words t).length<=2:=by cases t <;> simp [words]
theorem zkw {items:List W} {stab:Hw->Prop} {G1:Hw} {turn:W->Hw->(Option W->Hw->Prop)->Prop} {Q:Q3} (f:W->W) (hs:stab G1) (hl:items.length<=sizeLine) (ht:∀ w∈items,∀ K:Option W->Hw->Prop,K (some (f w)) G1->turn w G1 K)
  (hq:∀ p,G1 p=none->Q (.ref p) (put G1 p (.lst (items.map f)))):lcR items stab G1 turn Q :=
 zcb (fun w=>some (f w)) hs hl ht (by intro p hp;have:=hq p hp;rwa [show items.filterMap (fun w=>some (f w))=items.map f from congrFun (List.filterMap_eq_map (f:=f)) items])
theorem zfR (x:Str) (t:Sy):zb1 (.dbt x t)=said x t:=by
 by_cases h:x = "if" \/ x = "not"
 .simp only [zb1,zbm,said,if_pos h]
 .simp only [zb1,zbm,said,if_neg h]
theorem zbU (x:Str) (t:Sy):ans x t=(ansS x t).map Sy.w/\(ansS x t).length<=2/\∀ u∈ansS x t,u.size<=t.size:=by
 unfold ansS
 rw [dif_pos zd8]
 exact (zd8 (x:=x) (t:=t)).choose_spec
theorem zoY (a b:Str×Sy):(ltW (dW a) (dW b)).isSome=true:=by
 cases q:(a.1==b.1) with
 |true =>
  have e:a.1=b.1:=by simpa using q
  unfold dW
  rw [e]
  exact zbA (ltS1 (Sy.lt _ _))
 |false=>exact zar q
theorem zps (a b:Str):(ltW (.str a) (.str b)).isSome=true:=by rw [ltW];rfl
theorem Mv.lt (a b:Mv):(ltW a.w b.w).isSome=true:=by
 cases a with
 |ans x t s =>
  cases b with
  |ans y u v=>exact zbA (ltS2 (zoY (x,t) (y,u)) (Sy.lt s v))
  |dbt y u=>exact zar zaJ
 |dbt x t =>
  cases b with
  |ans y u v=>exact zar zat
  |dbt y u=>exact zbA (ltS2 (zps x y) (Sy.lt t u))
theorem zct (d:Str×Sy):L3.pur (dW d)=true:=by simp [dW,L3.pur,purs,d.2.pur]
theorem Mv.pur (m:Mv):L3.pur m.w=true:=by
 cases m with
 |ans x t s=>simp [Mv.w,L3.pur,purs,t.pur,s.pur]
 |dbt x t=>simp [Mv.w,L3.pur,purs,t.pur]
theorem Mv.st (m:Mv):L3.st m.w=true:=by
 cases m with
 |ans x t s=>simp [Mv.w,L3.st,sts,t.st,s.st]
 |dbt x t=>simp [Mv.w,L3.st,sts,t.st]
def Mv.big (n:Nat):Mv->Prop
 | .ans _ t s=>t.size<=n/\s.size<=n
 | .dbt _ t=>t.size<=n
theorem Mv.dep {m:Mv} {n:Nat} (h:m.big n):L3.dep m.w<=n+2:=by
 cases m with
 |ans x t s=>exact Nat.succ_le_succ (Nat.max_le.mpr ⟨Nat.zero_le _,Nat.max_le.mpr ⟨dep1 (Nat.le_trans (Sy.dep t) h.1),Nat.max_le.mpr ⟨Nat.le_trans (Nat.le_trans (Sy.dep s) h.2) (Nat.le_succ n),Nat.zero_le _⟩⟩⟩)
 |dbt x t=>exact Nat.succ_le_succ (Nat.max_le.mpr ⟨Nat.zero_le _,Nat.max_le.mpr ⟨Nat.zero_le _,Nat.max_le.mpr ⟨Nat.le_trans (Nat.le_trans (Sy.dep t) h) (Nat.le_succ n),Nat.zero_le _⟩⟩⟩)
theorem zeT (d:Str×Sy):L3.dep (dW d)<=d.2.size+1:=dep1 (Sy.dep d.2)
theorem Mv.hd (m:Mv):hdT m.w=some "str" := by cases m <;> rfl
theorem zgX {a b:Str×Sy} (h:dW a=dW b):a=b:=by
 simp only [dW,W.tup.injEq,List.cons.injEq,W.str.injEq,and_true] at h
 exact Prod.ext h.1 (Sy.inj h.2)
theorem Mv.inj {a b:Mv} (h:a.w=b.w):a=b:=by
 have n1:¬ (("answer" : Str) = "doubt"):=by decide +kernel
 have n2:¬ (("doubt" : Str) = "answer"):=by decide +kernel
 cases a with
 |ans x t s =>
  cases b with
  |ans y u v =>
   simp only [Mv.w,W.tup.injEq,List.cons.injEq,W.str.injEq,and_true,true_and] at h
   rw [h.1.1,Sy.inj h.1.2,Sy.inj h.2]
  |dbt y u=>simp only [Mv.w,W.tup.injEq,List.cons.injEq,W.str.injEq,n1,false_and] at h
 |dbt x t =>
  cases b with
  |ans y u v=>simp only [Mv.w,W.tup.injEq,List.cons.injEq,W.str.injEq,n2,false_and] at h
  |dbt y u =>
   simp only [Mv.w,W.tup.injEq,List.cons.injEq,W.str.injEq,and_true,true_and] at h
   rw [h.1,Sy.inj h.2]
theorem znI {ms:List Mv} (hn:ms.length<64) (hs:∀ m∈ms,m.big 21):Srtb (ms.map Mv.w) where
 pure:=zbI fun w hw=>by obtain ⟨m,_,rfl⟩:=List.mem_map.mp hw;exact m.pur
 lt:=fun x hx y hy=>by
  obtain ⟨a,_,rfl⟩:=List.mem_map.mp hx
  obtain ⟨b,_,rfl⟩:=List.mem_map.mp hy
  exact Mv.lt a b
 few:=by rw [List.length_map];exact hn
 deep:=Nat.lt_of_le_of_lt (zcK (n:=23) fun w hw=>by obtain ⟨m,hm,rfl⟩:=List.mem_map.mp hw;exact Mv.dep (hs m hm)) (by decide)
 hd:=⟨"str", fun x hx=>by obtain ⟨a,_,rfl⟩:=List.mem_map.mp hx;exact a.hd⟩
theorem zhg {ds:List (Str×Sy)} (hn:ds.length<64) (hs:∀ d∈ds,d.2.size<=21):Srtb (ds.map dW) where
 pure:=zbI fun w hw=>by obtain ⟨m,_,rfl⟩:=List.mem_map.mp hw;exact zct m
 lt:=fun x hx y hy=>by
  obtain ⟨a,_,rfl⟩:=List.mem_map.mp hx
  obtain ⟨b,_,rfl⟩:=List.mem_map.mp hy
  exact zoY a b
 few:=by rw [List.length_map];exact hn
 deep:=Nat.lt_of_le_of_lt (zcK (n:=23) fun w hw=>by
  obtain ⟨m,hm,rfl⟩:=List.mem_map.mp hw
  have:=zeT m;have:=hs m hm;omega) (by decide)
 hd:=⟨"str", fun x hx=>by obtain ⟨a,_,rfl⟩:=List.mem_map.mp hx;rfl⟩
theorem zc0 {α:Type} {xs:List α} {φ:α->W} (g:α->List W) {f:Addr} {G1:Hw} {L0:List W} (S:St3->Prop) {stab:Hw->Prop} {D:End3} {σ:St3} {turn:W->End3->St3->Hw->Prop}
  (hs:S σ) (gf:G1 f=some (.lst L0)) (stb:∀ G',Keep [f] G1 G'->stab G')
  (ht:∀ (i:Nat) (x:α),xs[i]?=some x->∀ σ' G',S σ'->Keep [f] G1 G'->G' f=some (.lst (L0++(xs.take i).flatMap g))->∀ D':End3,(∀ σ2 G2,S σ2->Keep [f] G' G2->G2 f=some (.lst (L0++(xs.take i).flatMap g++g x))->D'.nx σ2 G2)->turn (φ x) D' σ' G')
  (hq:∀ σ' G',S σ'->Keep [f] G1 G'->G' f=some (.lst (L0++xs.flatMap g))->D.nx σ' G'):forR (xs.map φ) stab D σ G1 turn:=by
 refine ⟨fun i σ' G'=>S σ'/\Keep [f] G1 G'/\G' f=some (.lst (L0++(xs.take i).flatMap g)),⟨hs,Keep.refl,by simpa using gf⟩,fun i σ' G' h _=>stb G' h.2.1,?_,?_⟩
 .rintro i w σ' G' hw ⟨h1,h2,h3⟩
  rw [List.getElem?_map] at hw
  obtain ⟨x,hx,rfl⟩:=Option.map_eq_some_iff.mp hw
  refine ht i x hx σ' G' h1 h2 h3 _ fun σ2 G2 s2 k2 g2=>⟨s2,h2.trans k2,?_⟩
  rw [g2]
  have hi:i<xs.length:=(List.getElem?_eq_some_iff.mp hx).1
  have e:xs[i]=x:=(List.getElem?_eq_some_iff.mp hx).2
  rw [List.take_succ_eq_append_getElem hi,e,List.flatMap_append,List.flatMap_singleton,List.append_assoc]
 .rintro σ' G' ⟨h1,h2,h3⟩
  rw [List.length_map,List.take_length] at h3
  exact hq σ' G' h1 h2 h3
theorem zbv {α:Type} {g:α->List W} {n:Nat}:∀ xs:List α,(∀ x∈xs,(g x).length<=n)->(xs.flatMap g).length<=n * xs.length
 | [],_=>by simp
 |x::xs,h=>by
  have h1:=h x List.mem_cons_self
  have h2:=zbv xs fun y hy=>h y (List.mem_cons_of_mem _ hy)
  rw [List.flatMap_cons,List.length_append,List.length_cons,Nat.mul_succ];omega
theorem Keep.grow {G G1 G2:Hw} {f:Addr} (k1:Keep [] G G1) (hf:G f=none) (k2:Keep [f] G1 G2):Keep [] G G2:=fun a o _ e=>k2 a o (by simpa using zba e hf) (k1 a o (by simp) e)
section
variable {K : Frg} {C : Addr}
theorem stk (K:Frg) (C:Addr) (n:Nat) {D:End3} {σ:St3} {G:Hw} (h:D.nx σ G):zaf (Gam K C n) XN .nil D σ G:=h
theorem is_w {G:Hw} {R:Q3} (s:Sy):isR false s.w .non G R=R (.bl false) G:=by
 obtain ⟨l,e⟩:=s.tup
 rw [e];rfl
theorem zlC {n:Nat} {ws:List W} {G:Hw} {Q:Q3} (h:zb2 ws G Q XN):zaf (Gam K C n) XN zcn { nx:=fun _ G'=>Q .non G',rt:=Q } (zap zda ws) G:=by
 obtain ⟨m,rfl,ok,h⟩:=h
 show zaf (Gam K C n) XN zcn { nx:=fun _ G'=>Q .non G',rt:=Q } [some m.w] G
 simp only [zcn]
 cases m with
 |ans x t s =>
  simp only [Mv.w]
  ((try dsimp only [zaf,semS,semE,semT,sem,mkE,mkB,blE,truE,semA,semO,semG,zab,semI,semC,conW,intR,blR,negR,gZ,gS,tZ,tS]);try simp only [ix0,ix2,cmpR,zah,beq_self_eq_true,if_true])
  exact h
 |dbt x t =>
  simp only [Mv.w]
  ((try dsimp only [zaf,semS,semE,semT,sem,mkE,mkB,blE,truE,semA,semO,semG,zab,semI,semC,conW,intR,blR,negR,gZ,gS,tZ,tS]);try simp only [ix0,ix1,ix2,cmpR,zah,zat,zzB,if_false])
  rw [zfR] at h
  unfold said at h
  have kid:∀ R:Q3,R (kid1 t).w G->ixR t.w (.int 1) G R:=fun R hR=>by
   have ok:=ok.1
   cases t with
   |say _=>cases ok
   |not a=>rw [Sy.w,ix1];exact hR
   |and a b=>rw [Sy.w,ix1];exact hR
   |or a b=>rw [Sy.w,ix1];exact hR
   |ite a b=>rw [Sy.w,ix1];exact hR
  by_cases hx:x = "if" \/ x = "not"
  .rw [if_pos hx] at h
   rcases hx with rfl | rfl
   .simp only [beq_self_eq_true,if_true]
    exact kid _ h
   .simp only [zio,beq_self_eq_true,zzB,if_false,if_true]
    exact kid _ h
  .rw [if_neg hx] at h
   have n1:(x==("if" : Str))=false:=by simpa using fun e=>hx (.inl e)
   have n2:(x==("not" : Str))=false:=by simpa using fun e=>hx (.inr e)
   simp only [n1,n2,zzB,if_false]
   exact h
end
end K23
set_option Elab.async false
set_option linter.all false
set_option maxRecDepth 100000
set_option maxHeartbeats 8000000
namespace K23
open PySem PySem.Spec PyProof.Rows L2 L3
theorem zd4 {α β:Type} (p:α->Bool) (h:α->β):∀ l:List α,(l.flatMap fun s=>if p s=true then [h s] else [])=(l.filter p).map h
 | []=>rfl
 |a::l=>by
  rw [List.flatMap_cons,zd4 p h l,List.filter_cons]
  split <;> rfl
theorem Keep.wide {S:List Addr} {G G':Hw} (k:Keep [] G G'):Keep S G G':=fun a o _ e=>k a o (by simp) e
theorem Keep.at {G:Hw} {f:Addr} {o:O}:Keep [f] G (put G f o):=fun a u ha e=>by rw [zau (by simpa using ha)];exact e
theorem zja (op:List (Str×Sy)) (sds:List Sy):(zgo op sds).map Mv.w=op.flatMap fun d=>(((ansS d.1 d.2).filter fun s=>may sds (some s)).map (Mv.ans d.1 d.2)).map Mv.w:=by
 unfold zgo;rw [List.map_flatMap]
theorem zi9 (ss:List Sy) (gone:List (Str×Sy)) (sds:List Sy):(zgn ss gone sds).map Mv.w=ss.flatMap fun s=>(((words s).filter fun x=>(!((gone.map dW).any fun g=>eqW g (dW (x,s))))&&may sds (zlE x s)).map fun x=>Mv.dbt x s).map Mv.w:=by
 unfold zgn;rw [List.map_flatMap]
theorem zdv {α β γ:Type} {l:List α} {p:α->Bool} {f:α->β} {g:β->γ}:(((l.filter p).map f).map g).length<=l.length:=by
 rw [List.length_map,List.length_map];exact List.length_filter_le _ _
theorem zbD {α:Type} {l:List α} {i:Nat}:(l.take i).length<=l.length:=by rw [List.length_take];exact Nat.min_le_right _ _
end K23
set_option Elab.async false
set_option linter.all false
set_option maxRecDepth 100000
set_option maxHeartbeats 8000000
namespace K23
open PySem PySem.Spec PyProof.Rows L2 L3
theorem bn1:(("again" : Str) == "answers")=false:=by decide +kernel
theorem bn2:(("doubts" : Str) == "answers")=false:=by decide +kernel
theorem bn3:(("doubts" : Str) == "again")=false:=by decide +kernel
theorem bn4:(("speaks" : Str) == "answers")=false:=by decide +kernel
theorem bn5:(("speaks" : Str) == "again")=false:=by decide +kernel
theorem bn6:(("speaks" : Str) == "doubts")=false:=by decide +kernel
theorem lk_c (x:Bk):x.fs.lookup ("doubts" : Str)=some (W.str x.c):=by unfold Bk.fs;simp [List.lookup,bn2,bn3]
theorem lk_e (x:Bk):x.fs.lookup ("speaks" : Str)=some (W.str x.e):=by unfold Bk.fs;simp [List.lookup,bn4,bn5,bn6]
theorem purs_mem:∀ {ws:List W} {w:W},purs ws=true->w∈ws->pur w=true
 |x::ws,w,h,hw=>by
  simp only [purs,Bool.and_eq_true] at h
  rcases List.mem_cons.mp hw with rfl | hw
  .exact h.1
  .exact purs_mem h.2 hw
theorem zh9 {xs ys:List W} (h:Srtb xs) (hm:∀ y∈ys,y∈xs) (hl:ys.length<=xs.length):Srtb ys where
 pure:=zbI fun w hw=>purs_mem h.pure (hm w hw)
 lt:=fun x hx y hy=>h.lt x (hm x hx) y (hm y hy)
 few:=Nat.lt_of_le_of_lt hl h.few
 deep:=Nat.lt_of_le_of_lt (zcK fun w hw=>zc2 (hm w hw)) h.deep
 hd:=by obtain ⟨T,hT⟩:=h.hd;exact ⟨T,fun x hx=>hT x (hm x hx)⟩
theorem zlW {G:Hw} {a b:Str} {r:Addr} {l:List W} {j i:Int} {Q:Q3} (gr:G r=some (.lst l)) (e:atI l j=some (.int i)) (hi:i=0\/i=1) (h:∀ p,G p=none->Q (.str (if i=0 then a else b)) (put G p (.lst [.str a,.str b]))) :
  ∀ p,G p=none->ixR (.ref r) (.int j) (put G p (.lst [.str a,.str b])) fun y G2=>ixR (.ref p) y G2 Q:=fun p hp=>by
 have gr':(put G p (.lst [.str a,.str b])) r=some (.lst l):=by rw [zau (zba gr hp)];exact gr
 refine ixL (zac gr') ?_
 rw [e]
 refine ixL (zac zad) ?_
 have:=h p hp
 rcases hi with rfl | rfl
 .rw [at_0];exact this
 .rw [at_1];exact this
theorem znW {x:Bk} {z:Sd} (h:z.ok):(pre x z).length<=50:=by
 have hf:zbX (zb0 x z):=by unfold zb0;split;exact h.fr;exact h.sd
 have h1:((zgo z.op z.sd).map Mv.w).length<=2 * z.op.length:=by rw [zja];exact zbv _ fun d _=>Nat.le_trans zdv (zbU d.1 d.2).2.1
 have h2:((zgn (zb0 x z) (zmD x z) z.sd).map Mv.w).length<=2 * (zb0 x z).length:=by rw [zi9];exact zbv _ fun s _=>Nat.le_trans zdv (za6 s)
 rw [List.length_map] at h1 h2
 have:=h.op.1
 have:=hf.1
 unfold pre
 rw [List.length_append];omega
theorem znX {x:Bk} {z:Sd} (h:z.ok):∀ m∈pre x z,m.big 21:=by
 have hf:zbX (zb0 x z):=by unfold zb0;split;exact h.fr;exact h.sd
 intro m hm
 rcases List.mem_append.mp hm with hm | hm
 .obtain ⟨d,hd,hm⟩:=List.mem_flatMap.mp hm
  obtain ⟨s,hs,rfl⟩:=List.mem_map.mp hm
  have h1:=(h.op.2.2 d hd).2
  have h2:=(zbU d.1 d.2).2.2 s (List.mem_filter.mp hs).1
  exact ⟨by omega,by omega⟩
 .obtain ⟨s,hs,hm⟩:=List.mem_flatMap.mp hm
  obtain ⟨y,_,rfl⟩:=List.mem_map.mp hm
  have:=hf.2.2 s hs
  show s.size<=21
  omega
section
variable {K : Frg} {C : Addr}
theorem zfD {f:Str} (h:f∈zbL) (l:List Fn3):∃ l',(C,l')∈(GamL C l).cl/\f∈l':=⟨zbL,by simp [GamL],h⟩
theorem m_a:("answers" : Str)∈zbL:=by decide +kernel
theorem m_b:("again" : Str)∈zbL:=by decide +kernel
theorem m_c:("doubts" : Str)∈zbL:=by decide +kernel
theorem m_e:("speaks" : Str)∈zbL:=by decide +kernel
theorem m_f:("other" : Str)∈zbL:=by decide +kernel
theorem attE {n:Nat} {G:Hw} {b:Addr} {x:Bk} {Q:Q3} (hb:IsBk C G b x) (h:Q (.str x.e) G):attR (Gam K C n).cl "speaks" (.ref b) G Q:=by
 simp only [attR,show G b=some (.ins C x.fs) from hb,lk_e]
 exact ⟨zfD m_e _,h⟩
theorem lk_a (x:Bk):x.fs.lookup ("answers" : Str)=some (W.str x.a):=by unfold Bk.fs;simp [List.lookup]
theorem lk_b (x:Bk):x.fs.lookup ("again" : Str)=some (W.str x.b):=by unfold Bk.fs;simp [List.lookup,bn1]
theorem attA {n:Nat} {G:Hw} {b:Addr} {x:Bk} {Q:Q3} (hb:IsBk C G b x) (h:Q (.str x.a) G):attR (Gam K C n).cl "answers" (.ref b) G Q:=by
 simp only [attR,show G b=some (.ins C x.fs) from hb,lk_a]
 exact ⟨zfD m_a _,h⟩
theorem attB {n:Nat} {G:Hw} {b:Addr} {x:Bk} {Q:Q3} (hb:IsBk C G b x) (h:Q (.str x.b) G):attR (Gam K C n).cl "again" (.ref b) G Q:=by
 simp only [attR,show G b=some (.ins C x.fs) from hb,lk_b]
 exact ⟨zfD m_b _,h⟩
theorem attC {n:Nat} {G:Hw} {b:Addr} {x:Bk} {Q:Q3} (hb:IsBk C G b x) (h:Q (.str x.c) G):attR (Gam K C n).cl "doubts" (.ref b) G Q:=by
 simp only [attR,show G b=some (.ins C x.fs) from hb,lk_c]
 exact ⟨zfD m_c _,h⟩
theorem zmB {n:Nat} {ws:List W} {G:Hw} {Q:Q3} (h:zfY C ws G Q XN):zaf (Gam K C n) XN zcp { nx:=fun _ G'=>Q .non G',rt:=Q } (zap zdc ws) G:=by
 obtain ⟨p,x,rfl,hp,h⟩:=h
 show zaf (Gam K C n) XN zcp { nx:=fun _ G'=>Q .non G',rt:=Q } [some (.ref p),some (.str x.a),some (.str x.b),some (.str x.c),some (.str x.e),some (.str x.f)] G
 dsimp only [zcp,zaf,semS,semE,semT,sem,mkE,gZ,gS]
 simp only [satR,hp,zad,zkb]
 have q1:zcS ("answers" : Str) (W.str x.a) []=([("answers", .str x.a)]:List (Str×W)):=rfl
 have q2:zcS ("again" : Str) (W.str x.b) [("answers", .str x.a)]=([("answers", .str x.a),("again", .str x.b)]:List (Str×W)):=by
  simp [zcS,show ¬ (("answers" : Str) = "again") by decide +kernel]
 have q3:zcS ("doubts" : Str) (W.str x.c) [("answers", .str x.a),("again", .str x.b)]=([("answers", .str x.a),("again", .str x.b),("doubts", .str x.c)]:List (Str×W)):=by
  simp [zcS,show ¬ (("answers" : Str) = "doubts") by decide +kernel,show ¬ (("again" : Str) = "doubts") by decide +kernel]
 have q4:zcS ("speaks" : Str) (W.str x.e) [("answers", .str x.a),("again", .str x.b),("doubts", .str x.c)]=([("answers", .str x.a),("again", .str x.b),("doubts", .str x.c),("speaks", .str x.e)]:List (Str×W)):=by
  simp [zcS,show ¬ (("answers" : Str) = "speaks") by decide +kernel,show ¬ (("again" : Str) = "speaks") by decide +kernel,show ¬ (("doubts" : Str) = "speaks") by decide +kernel]
 have q5:zcS ("other" : Str) (W.str x.f) [("answers", .str x.a),("again", .str x.b),("doubts", .str x.c),("speaks", .str x.e)]=x.fs:=by
  unfold Bk.fs
  simp [zcS,show ¬ (("answers" : Str) = "other") by decide +kernel,show ¬ (("again" : Str) = "other") by decide +kernel,show ¬ (("doubts" : Str) = "other") by decide +kernel,show ¬ (("speaks" : Str) = "other") by decide +kernel]
 rw [q1,q2,q3,q4,q5]
 exact ⟨zfD m_a _,by decide,zfD m_b _,by show 1<1000;decide,zfD m_c _,by show 2<1000;decide,zfD m_e _,by show 3<1000;decide,zfD m_f _,by show 4<1000;decide,h⟩
theorem zo5 {x:Bk} (hx:x.f = "last") {G:Hw} {Q:Q3} (h:∀ p,G p=none->Q (.ref p) (put G p (.ins C x.fs))):zih C [.str x.a,.str x.b,.str x.c,.str x.e] G Q XN:=fun p hp=>⟨p,x,by rw [Bk.ws,hx];rfl,zad,rfl,by rw [zkb];exact h p hp⟩
theorem zje {n:Nat} {ws:List W} {G:Hw} {Q:Q3} (h:ze6 ws G Q XN):zaf (Gam K C n) XN zbR { nx:=fun _ G'=>Q .non G',rt:=Q } (zap zcz ws) G:=by
 obtain ⟨t,rfl,h⟩:=h
 have z0:=sz 0 (by decide)
 have z1:=sz 1 (by decide)
 have z2:=sz 2 (by decide)
 have z4:=sz 4 (by decide)
 show zaf (Gam K C n) XN zbR { nx:=fun _ G'=>Q .non G',rt:=Q } [some t.w] G
 simp only [zbR]
 refine stp ?_
 ((try dsimp only [semS,semE,semT,sem,mkE,mkB,blE,truE,semA,semO,semG,zab,semI,semC,conW,intR,blR,negR,gZ,gS,tZ,tS]);try simp only [zzC,zzL,zzA,Nat.reduceAdd,z0,z1,z2,z4,true_and])
 exact h
theorem zky {n:Nat} (hn:21<=n) {ws:List W} {G:Hw} {Q:Q3} (h:ze9 C ws G Q XN):zaf (Gam K C n) XN zco { nx:=fun _ G'=>Q .non G',rt:=Q } (zap zdb ws) G:=by
 obtain ⟨d,l,rfl,D,h⟩:=h
 have e8:(Gam K C n).fn[8]?=some zhN:=fnA 8 hn rfl
 have e20:(Gam K C n).fn[20]?=some ⟨"Book", zih C⟩:=fnA 20 hn rfl
 have i0:(Gam K C n).it[0]?=some eRng:=rfl
 have z2:=sz 2 (by decide)
 have z4:=sz 4 (by decide)
 have fin:∀ (G1:Hw) (x:Bk),Keep [d,l] G G1->Deal G1 d l->x.ok->x.f = "last" -> zih C [.str x.a,.str x.b,.str x.c,.str x.e] G1 Q XN:=fun G1 x k1 D1 hx hf=>zo5 hf fun p hp =>
  have hpd:=zdk D1 hp
  h p x _ hx (k1.none hpd hp) hpd (k1.trans (Keep.new hp)) (zaA hp D1) zad
 show zaf (Gam K C n) XN zco { nx:=fun _ G'=>Q .non G',rt:=Q } [some (.ref d),none,none,none] G
 simp only [zco]
 refine stp ?_
 ((try dsimp only [semS,semE,semT,sem,mkE,mkB,blE,truE,semA,semO,semG,zab,semI,semC,conW,intR,blR,negR,gZ,gS,tZ,tS]);try simp only [e8])
 refine ⟨d,l,4,rfl,D,by decide,fun way G1 w0 w1 k1 D1=>?_⟩
 refine stp ?_
 ((try dsimp only [semS,semE,semT,sem,mkE,mkB,blE,truE,semA,semO,semG,zab,semI,semC,conW,intR,blR,negR,gZ,gS,tZ,tS]);try simp only [cmpR,zbM,e20])
 by_cases hw:way=0
 .rw [if_pos (by simpa using hw)]
  refine stp ?_
  ((try dsimp only [semS,semE,semT,sem,mkE,mkB,blE,truE,semA,semO,semG,zab,semI,semC,conW,intR,blR,negR,gZ,gS,tZ,tS]);try simp only [e20])
  exact fin G1 ⟨"last", "once", "often", "any", "last"⟩ k1 D1 (.inr rfl) rfl
 rw [if_neg (by simpa using hw)]
 refine stk K C n ?_
 refine stp ?_
 ((try dsimp only [semS,semE,semT,sem,mkE,mkB,blE,truE,semA,semO,semG,zab,semI,semC,conW,intR,blR,negR,gZ,gS,tZ,tS]);try simp only [cmpR,zbM,e20])
 by_cases hw1:way=1
 .rw [if_pos (by simpa using hw1)]
  refine stp ?_
  ((try dsimp only [semS,semE,semT,sem,mkE,mkB,blE,truE,semA,semO,semG,zab,semI,semC,conW,intR,blR,negR,gZ,gS,tZ,tS]);try simp only [e20])
  exact fin G1 ⟨"any", "often", "often", "any", "last"⟩ k1 D1 (.inr rfl) rfl
 rw [if_neg (by simpa using hw1)]
 refine stk K C n ?_
 refine stp ?_
 ((try dsimp only [semS,semE,semT,sem,mkE,mkB,blE,truE,semA,semO,semG,zab,semI,semC,conW,intR,blR,negR,gZ,gS,tZ,tS]);try simp only [semI,semC,i0])
 refine ⟨⟨by decide,by decide⟩,?_⟩
 have len:((List.range (4:Int).toNat).map fun i:Nat=>W.int (i:Int)).length=4:=by rfl
 refine ⟨fun i acc G'=>∃ ns:List Int,acc=ns.map .int/\ns.length=i/\(∀ x∈ns,x=0\/x=1)/\Keep [d,l] G1 G'/\Deal G' d l,⟨[],rfl,rfl,by simp,Keep.refl,D1⟩,?_,by rw [len];exact z4,?_,?_⟩
 .rintro i acc G' ⟨ts,rfl,rfl,_,_,_⟩ _
  exact ⟨trivial,by simp⟩
 .rintro i w acc G' hw ⟨ts,rfl,hl,hs,kp,D'⟩
  simp only [capS,List.length_cons,List.length_nil,List.replicate,List.map_cons,List.map_nil,List.cons_append,List.nil_append,List.append_nil]
  ((try dsimp only [semS,semE,semT,sem,mkE,mkB,blE,truE,semA,semO,semG,zab,semI,semC,conW,intR,blR,negR,gZ,gS,tZ,tS]);try simp only [Option.join_some,if_true,e8])
  refine ⟨d,l,2,rfl,D',by decide,fun r G'' r0 r1 kp' D''=>⟨ts++[r],by simp,by simp [hl],fun y hy=>?_,kp.trans kp',D''⟩⟩
  rcases List.mem_append.mp hy with hy | hy
  .exact hs y hy
  .rw [List.mem_singleton.mp hy];omega
 .rintro acc G' ⟨ts,rfl,hl,hs,kp,D'⟩ r hr
  rw [len] at hl
  obtain ⟨a0,a1,a2,a3,rfl⟩:∃ a0 a1 a2 a3,ts=[a0,a1,a2,a3]:=by
   match ts,hl with
   | [a,b,c,e],_=>exact ⟨a,b,c,e,rfl⟩
  have k2:Keep [d,l] G (put G' r (.lst ([a0,a1,a2,a3].map .int))):=(k1.trans kp).trans (Keep.new hr)
  have D2:=zaA (o:=.lst ([a0,a1,a2,a3].map .int)) hr D'
  have g2:(put G' r (.lst ([a0,a1,a2,a3].map .int))) r=some (.lst ([a0,a1,a2,a3].map .int)):=zad
  generalize put G' r (.lst ([a0,a1,a2,a3].map .int))=G2 at k2 D2 g2 ⊢
  have at3:atI [W.int a0,.int a1,.int a2,.int a3] 3=some (.int a3):=by rfl
  have s0:=hs a0 (by simp)
  have s1:=hs a1 (by simp)
  have s2:=hs a2 (by simp)
  have s3:=hs a3 (by simp)
  refine stp ?_
  ((try dsimp only [semS,semE,semT,sem,mkE,mkB,blE,truE,semA,semO,semG,zab,semI,semC,conW,intR,blR,negR,gZ,gS,tZ,tS]);try simp only [zzC,zzL,zzA,Nat.reduceAdd,z2,z4,true_and])
  refine zlW g2 at_0 s0 fun p0 h0=>?_
  have g3:=(Keep.new (S:=[]) (o:=.lst [.str "last", .str "any"]) h0) _ _ (by simp) g2
  refine zlW g3 at_1 s1 fun p1 h1=>?_
  have g4:=(Keep.new (S:=[]) (o:=.lst [.str "once", .str "often"]) h1) _ _ (by simp) g3
  refine zlW g4 at_2 s2 fun p2 h2=>?_
  have g5:=(Keep.new (S:=[]) (o:=.lst [.str "once", .str "often"]) h2) _ _ (by simp) g4
  refine zlW g5 at3 s3 fun p3 h3=>?_
  have k3:=(((k2.trans (Keep.new h0)).trans (Keep.new h1)).trans (Keep.new h2)).trans (Keep.new (o:=.lst [.str "last", .str "any"]) h3)
  have D3:=zaA (o:=.lst [.str "last", .str "any"]) h3 (zaA (o:=.lst [.str "once", .str "often"]) h2 (zaA (o:=.lst [.str "once", .str "often"]) h1 (zaA (o:=.lst [.str "last", .str "any"]) h0 D2)))
  generalize put (put (put (put G2 p0 (.lst [.str "last", .str "any"])) p1 (.lst [.str "once", .str "often"])) p2 (.lst [.str "once", .str "often"])) p3 (.lst [.str "last", .str "any"])=G3 at k3 D3 ⊢
  intro q hq
  have k4:=k3.trans (Keep.new (o:=.lst [.str (if a0=0 then "last" else "any"),.str (if a1=0 then "once" else "often"),.str (if a2=0 then "once" else "often"),.str (if a3=0 then "last" else "any")]) hq)
  have D4:=zaA (o:=.lst [.str (if a0=0 then "last" else "any"),.str (if a1=0 then "once" else "often"),.str (if a2=0 then "once" else "often"),.str (if a3=0 then "last" else "any")]) hq D3
  have gq:=zac (zad (G:=G3) (a:=q) (o:=.lst [.str (if a0=0 then "last" else "any"),.str (if a1=0 then "once" else "often"),.str (if a2=0 then "once" else "often"),.str (if a3=0 then "last" else "any")]))
  generalize put G3 q (.lst [.str (if a0=0 then "last" else "any"),.str (if a1=0 then "once" else "often"),.str (if a2=0 then "once" else "often"),.str (if a3=0 then "last" else "any")])=G4 at k4 D4 gq ⊢
  refine stp ?_
  ((try dsimp only [semS,semE,semT,sem,mkE,mkB,blE,truE,semA,semO,semG,zab,semI,semC,conW,intR,blR,negR,gZ,gS,tZ,tS]);try simp only [e20])
  have at3':∀ a b c e:W,atI [a,b,c,e] 3=some e:=fun _ _ _ _=>by rfl
  refine ixL gq ?_
  rw [at_0]
  refine ixL gq ?_
  rw [at_1]
  refine ixL gq ?_
  rw [at_2]
  refine ixL gq ?_
  rw [at3']
  refine fin G4 ⟨if a0=0 then "last" else "any", if a1=0 then "once" else "often", if a2=0 then "once" else "often", if a3=0 then "last" else "any", "last"⟩ k4 D4 ?_ rfl
  show (if a2=0 then ("once" : Str) else "often") = "once" \/ (if a2=0 then ("once" : Str) else "often") = "often"
  split
  .exact .inl rfl
  .exact .inr rfl
end
end K23
set_option Elab.async false
set_option linter.all false
set_option maxRecDepth 100000
set_option maxHeartbeats 8000000
namespace K23
open PySem PySem.Spec PyProof.Rows L2 L3
section
variable {K : Frg} {C : Addr}
theorem zly {n:Nat} (hn:20<=n) {ws:List W} {G:Hw} {Q:Q3} (h:zic ws G Q XN):zaf (Gam K C n) XN zcm { nx:=fun _ G'=>Q .non G',rt:=Q } (zap zc9 ws) G:=by
 obtain ⟨d,l,v,xs,rfl,D,hv,hS,h⟩:=h
 have e5:(Gam K C n).fn[5]?=some eSrt:=fnA 5 hn rfl
 have e8:(Gam K C n).fn[8]?=some zhN:=fnA 8 hn rfl
 have e19:(Gam K C n).fn[19]?=some eTup:=fnA 19 hn rfl
 have pm:=zaM xs
 show zaf (Gam K C n) XN zcm { nx:=fun _ G'=>Q .non G',rt:=Q } [some (.ref d),some v] G
 simp only [zcm]
 refine stp ?_
 ((try dsimp only [semS,semE,semT,sem,mkE,mkB,blE,truE,semA,semO,semG,zab,semI,semC,conW,intR,blR,negR,gZ,gS,tZ,tS]);try simp only [e19,e5,semI,semC])
 refine ⟨xs,hv,hS,fun r hr=>?_⟩
 have D1:=zaA (o:=.lst (srt xs)) hr D
 have hrd:=zdk D hr
 have k1:Keep [d,l] G (put G r (.lst (srt xs))):=Keep.new hr
 have gr:(put G r (.lst (srt xs))) r=some (.lst (srt xs)):=zad
 generalize put G r (.lst (srt xs))=G1 at D1 k1 gr ⊢
 simp only [zbc,zac gr]
 refine ⟨fun i acc G'=>acc.Sublist ((srt xs).take i)/\Keep [d,l] G1 G'/\Deal G' d l,⟨by simp,Keep.refl,D1⟩,?_,by rw [pm.length_eq];exact sz _ (by have:=hS.few;omega),?_,?_⟩
 .rintro i acc G' ⟨sb,kp,_⟩ _
  exact ⟨zac (kp _ _ hrd gr),by have:=sb.length_le;rw [List.length_take] at this;omega⟩
 .rintro i w acc G' hw ⟨sb,kp,D'⟩
  simp only [capS,List.length_cons,List.length_nil,List.replicate,List.map_cons,List.map_nil,List.cons_append,List.nil_append,List.append_nil]
  ((try dsimp only [semS,semE,semT,sem,mkE,mkB,blE,truE,semA,semO,semG,zab,semI,semC,conW,intR,blR,negR,gZ,gS,tZ,tS]);try simp only [Option.join_some,if_true,e8])
  refine ⟨d,l,2,rfl,D',by decide,fun c G'' c0 c1 kp' D''=>?_⟩
  ((try dsimp only [semS,semE,semT,sem,mkE,mkB,blE,truE,semA,semO,semG,zab,semI,semC,conW,intR,blR,negR,gZ,gS,tZ,tS]);try simp only [cmpR,zbM])
  have hi:i<(srt xs).length:=(List.getElem?_eq_some_iff.mp hw).1
  have e:(srt xs)[i]=w:=(List.getElem?_eq_some_iff.mp hw).2
  by_cases hc:c=1
  .rw [if_pos (by simpa using hc)]
   refine ⟨?_,kp.trans kp',D''⟩
   rw [List.take_succ_eq_append_getElem hi,e]
   exact sb.append (List.Sublist.refl _)
  .rw [if_neg (by simpa using hc)]
   refine ⟨?_,kp.trans kp',D''⟩
   rw [List.take_succ_eq_append_getElem hi]
   exact sb.trans (List.sublist_append_left _ _)
 .rintro acc G' ⟨sb,kp,D'⟩ p hp
  rw [List.take_length] at sb
  have sub:∀ y∈acc,y∈xs:=fun y hy=>pm.mem_iff.mp (sb.subset hy)
  have le:acc.length<=xs.length:=by rw [← pm.length_eq];exact sb.length_le
  have pa:=zaM acc
  refine ⟨acc,zac zad,zh9 hS sub le,fun s hs=>?_⟩
  have sq:za8 (put (put G' p (.lst acc)) s (.lst (srt acc))) (.ref s)=some (srt acc):=zac zad
  simp only [tupS,sq]
  exact h (srt acc) _ (fun y hy=>sub y (pa.mem_iff.mp hy)) (by rw [pa.length_eq];exact le) (fun nd=>pa.symm.nodup (sb.nodup (pm.symm.nodup nd))) (fun hs nd=>zes (zcq fun w hw=>zas hs (sub w hw)) (fun x hx y hy=>hS.lt x (sub x hx) y (sub y hy)) (sb.nodup (pm.symm.nodup nd))) ((k1.trans kp).trans ((Keep.new hp).trans (Keep.new hs))) (zaA hs (zaA hp D'))
end
end K23
set_option Elab.async false
set_option linter.all false
set_option maxRecDepth 100000
set_option maxHeartbeats 8000000
namespace K23
open PySem PySem.Spec PyProof.Rows L2 L3
def zds (t:Sy) (ts:List Sy):List (Str×Sy):=("begin", t)::ts.flatMap fun s=>(words s).map fun x=>(x,s)
theorem zjC {α:Type} {φ:α->W} {ts:List α}:∀ {ws:List W},(∀ x∈ws,x∈ts.map φ)->∃ zs:List α,ws=zs.map φ/\∀ z∈zs,z∈ts
 | [],_=>⟨[],rfl,fun _ h=>nomatch h⟩
 |x::ws,h=>by
  obtain ⟨t,ht,rfl⟩:=List.mem_map.mp (h x List.mem_cons_self)
  obtain ⟨zs,rfl,hz⟩:=zjC (ws:=ws) fun y hy=>h y (List.mem_cons_of_mem _ hy)
  refine ⟨t::zs,rfl,fun z hz'=>?_⟩
  rcases List.mem_cons.mp hz' with rfl | hz'
  .exact ht
  .exact hz z hz'
theorem zhV (s:Sy):("begin" : Str)∉words s:=by
 cases s <;> simp only [words,List.mem_cons,List.not_mem_nil,or_false,not_false_eq_true] <;> decide +kernel
theorem zlk (s:Sy):(words s).Nodup:=by
 cases s <;> simp only [words,List.nodup_cons,List.mem_cons,List.not_mem_nil,or_false,not_false_eq_true,List.nodup_nil,and_true] <;> decide +kernel
theorem ziR {t:Sy} {ts:List Sy} (h:ts.Nodup):(zds t ts).Nodup:=by
 unfold zds
 refine List.nodup_cons.mpr ⟨fun hm=>?_,List.pairwise_flatMap.mpr ⟨fun s _=>List.pairwise_map.mpr ((zlk s).imp fun n e=>n (congrArg Prod.fst e)),h.imp fun n x hx y hy e=>?_⟩⟩
 .obtain ⟨s,_,hm⟩:=List.mem_flatMap.mp hm
  obtain ⟨x,hx,e⟩:=List.mem_map.mp hm
  have:x = "begin" := congrArg Prod.fst e
  rw [this] at hx
  exact zhV s hx
 .obtain ⟨a,_,rfl⟩:=List.mem_map.mp hx
  obtain ⟨b,_,rfl⟩:=List.mem_map.mp hy
  exact n (congrArg Prod.snd e)
theorem zg8 {t:Sy} {ts:List Sy}:(zds t ts).length<=1+2 * ts.length:=by
 have:((ts.flatMap fun s=>(words s).map fun x=>(x,s)).map dW).length<=2 * ts.length:=by
  rw [List.map_flatMap]
  exact zbv _ fun s _=>by rw [List.length_map,List.length_map];exact za6 s
 rw [List.length_map] at this
 unfold zds
 rw [List.length_cons];omega
theorem zmX {t:Sy} {ts:List Sy} (ht:t.size<=8) (h:∀ s∈ts,s.size<=8):∀ d∈zds t ts,okD d.1 d.2/\d.2.size<=8:=by
 intro d hd
 rcases List.mem_cons.mp hd with rfl | hd
 .exact ⟨.inr rfl,ht⟩
 .obtain ⟨s,hs,hd⟩:=List.mem_flatMap.mp hd
  obtain ⟨x,hx,rfl⟩:=List.mem_map.mp hd
  exact ⟨.inl hx,h s hs⟩
theorem zmS (d:Str×Sy):L3.st (dW d)=true:=by simp [dW,L3.st,sts,d.2.st]
theorem zh7 (l:List (Str×Sy)):sts (l.map dW)=true:=zcq fun w hw=>by obtain ⟨d,_,rfl⟩:=List.mem_map.mp hw;exact zmS d
theorem zm2 (l:List Sy):sts (l.map Sy.w)=true:=zcq fun w hw=>by obtain ⟨d,_,rfl⟩:=List.mem_map.mp hw;exact d.st
theorem zf1 {l:List (Str×Sy)} {ys:List W} (h:zb4 l) (hy:∀ y∈ys,y∈l.map dW) (hl:ys.length<=(l.map dW).length) (hn:(l.map dW).Nodup->ys.Nodup) (hs:sts (l.map dW)=true->(l.map dW).Nodup->zaR ys):∃ zs,ys=zs.map dW/\zb4 zs/\zaR (zs.map dW):=by
 have hs:=hs (zh7 l) (zb7 (fun _ _=>zgX) h.2.1)
 obtain ⟨zs,rfl,hz⟩:=zjC hy
 rw [List.length_map,List.length_map] at hl
 exact ⟨zs,rfl,⟨Nat.le_trans hl h.1,zl9 (hn (zb7 (fun _ _=>zgX) h.2.1)),fun d hd=>h.2.2 d (hz d hd)⟩,hs⟩
theorem zf0 {l:List Sy} {ys:List W} (h:zbX l) (hy:∀ y∈ys,y∈l.map Sy.w) (hl:ys.length<=(l.map Sy.w).length) (hn:(l.map Sy.w).Nodup->ys.Nodup) (hs:sts (l.map Sy.w)=true->(l.map Sy.w).Nodup->zaR ys):∃ zs,ys=zs.map Sy.w/\zbX zs/\zaR (zs.map Sy.w):=by
 have hs:=hs (zm2 l) (zb7 (fun _ _=>Sy.inj) h.2.1)
 obtain ⟨zs,rfl,hz⟩:=zjC hy
 rw [List.length_map,List.length_map] at hl
 exact ⟨zs,rfl,⟨Nat.le_trans hl h.1,zl9 (hn (zb7 (fun _ _=>Sy.inj) h.2.1)),fun d hd=>h.2.2 d (hz d hd)⟩,hs⟩
theorem zev:zb4 []:=⟨Nat.zero_le _,List.nodup_nil,fun _ h=>nomatch h⟩
theorem zcf:zbX []:=⟨Nat.zero_le _,List.nodup_nil,fun _ h=>nomatch h⟩
theorem zmT {a:W} {l:List W}:cut (a::l) (some 1) none=l:=by
 have e:HT.sIx (a::l).length 0 (some 1)=1:=by
  show HT.sIx (a::l).length 0 (some ((1:Nat):Int))=1
  rw [HT.zj0,List.length_cons]
  omega
 unfold cut
 rw [e,HT.zil,List.drop_one,List.tail_cons]
 exact List.take_of_length_le (by simp)
theorem zoZ {l:List W}:cut l none (some 1)=l.take 1:=by
 have e:HT.sIx l.length l.length (some 1)=min 1 l.length:=by
  show HT.sIx l.length l.length (some ((1:Nat):Int))=_
  rw [HT.zj0]
 unfold cut
 rw [e,HT.zil,List.drop_zero,Nat.sub_zero]
 cases l with
 |nil=>rfl
 |cons a l=>rw [List.length_cons,show min 1 (l.length+1)=1 by omega]
theorem zq2 {α:Type} {φ:α->W} {xs:List α} {i:Int} (h0:0<=i) (h1:i<xs.length):∃ x∈xs,atI (xs.map φ) i=some (φ x):=by
 have hi:i.toNat<xs.length:=by omega
 refine ⟨xs[i.toNat],List.getElem_mem hi,?_⟩
 unfold atI ixN
 rw [if_pos h0,List.length_map,if_pos h1]
 show (xs.map φ)[i.toNat]?=_
 rw [List.getElem?_map,List.getElem?_eq_getElem hi]
 rfl
section
variable {K : Frg} {C : Addr}
theorem zfW {n:Nat} (hn:25<=n) {ws:List W} {G:Hw} {Q:Q3} (h:zce C ws G Q XN):zaf (Gam K C n) XN zaj { nx:=fun _ G'=>Q .non G',rt:=Q } (zap zbz ws) G:=by
 obtain ⟨d,l,b,x,t,rfl,D,hb,hbd,ht,h⟩:=h
 have e1:(Gam K C n).fn[1]?=some eLen:=fnA 1 hn rfl
 have e8:(Gam K C n).fn[8]?=some zhN:=fnA 8 hn rfl
 have e11:(Gam K C n).fn[11]?=some ⟨"_law_all_parts", zaB 21⟩:=fnA 11 hn rfl
 have e14:(Gam K C n).fn[14]?=some ⟨"_law_words", zc7⟩:=fnA 14 hn rfl
 have e24:(Gam K C n).fn[24]?=some ⟨"_law_some", zic⟩:=fnA 24 hn rfl
 have z0:=sz 0 (by decide)
 have z1:=sz 1 (by decide)
 have z2:=sz 2 (by decide)
 have z4:=sz 4 (by decide)
 have s9:∀ (G':Hw) (z:Sd) (v3 v4 v5:Option W),z.ok->(x.c = "often" -> z.us=[])->Keep [d,l] G G'->Deal G' d l->zaf (Gam K C n) XN (tl (tl (tl (tl (tl (tl (tl (tl (tl zaj))))))))) { nx:=fun _ G'=>Q .non G',rt:=Q } [some (.ref d),some (.ref b),some t.w,v3,v4,v5,some (.tup (z.sd.map Sy.w)),some (.tup (z.fr.map Sy.w)),some (.tup (z.us.map dW)),some (.tup (z.op.map dW))] G':=by
  intro G' z v3 v4 v5 hz hu kp D'
  simp only [zaj,tl]
  refine stp ?_
  ((try dsimp only [semS,semE,semT,sem,mkE,mkB,blE,truE,semA,semO,semG,zab,semI,semC,conW,intR,blR,negR,gZ,gS,tZ,tS]);try simp only [e8])
  refine ⟨d,l,2,rfl,D',by decide,fun c G2 c0 c1 k2 D2=>?_⟩
  ((try dsimp only [semS,semE,semT,sem,mkE,mkB,blE,truE,semA,semO,semG,zab,semI,semC,conW,intR,blR,negR,gZ,gS,tZ,tS]);try simp only [cmpR,zbM])
  by_cases hc:c=0
  .rw [if_pos (by simpa using hc)]
   refine stp ?_
   ((try dsimp only [semS,semE,semT,sem,mkE,mkB,blE,truE,semA,semO,semG,zab,semI,semC,conW,intR,blR,negR,gZ,gS,tZ,tS]);try simp only [slR,zoZ])
   refine stk K C n ?_
   refine stp ?_
   ((try dsimp only [semS,semE,semT,sem,mkE,mkB,blE,truE,semA,semO,semG,zab,semI,semC,conW,intR,blR,negR,gZ,gS,tZ,tS]);try simp only [zzC,zzL,zzA,Nat.reduceAdd,z4,true_and])
   rw [← List.map_take]
   exact h ⟨z.sd,z.op.take 1,z.us,z.fr⟩ G2 ⟨hz.sd,⟨Nat.le_trans zbD hz.op.1,hz.op.2.1.sublist (List.take_sublist _ _),fun e he=>hz.op.2.2 e (List.mem_of_mem_take he)⟩,hz.us,hz.fr,hz.s1,by show zaR ((z.op.take 1).map dW);rw [List.map_take];exact hz.s2.sublist (List.take_sublist _ _),hz.s3⟩ hu (kp.trans k2) D2
  .rw [if_neg (by simpa using hc)]
   refine stk K C n ?_
   refine stp ?_
   ((try dsimp only [semS,semE,semT,sem,mkE,mkB,blE,truE,semA,semO,semG,zab,semI,semC,conW,intR,blR,negR,gZ,gS,tZ,tS]);try simp only [zzC,zzL,zzA,Nat.reduceAdd,z4,true_and])
   exact h z G2 hz hu (kp.trans k2) D2
 simp only [zaj,tl] at s9
 have s6:∀ (G':Hw) (r a:Addr) (ts sd fr:List Sy) (v5:Option W),ts.length<=8->ts.Nodup->(∀ s∈ts,s.size<=8)->zbX sd->zbX fr->zaR (sd.map Sy.w)->a∉[d,l]->G' a=some (.lst ((zds t ts).map dW))->Keep [d,l] G G'->Deal G' d l ->
   zaf (Gam K C n) XN (tl (tl (tl (tl (tl (tl zaj)))))) { nx:=fun _ G'=>Q .non G',rt:=Q } [some (.ref d),some (.ref b),some t.w,some (.ref r),some (.ref a),v5,some (.tup (sd.map Sy.w)),some (.tup (fr.map Sy.w)),none,none] G':=by
  intro G' r a ts sd fr v5 tl8 tnd ts8 hsd hfr hst had ga kp D'
  have hlen:=zg8 (t:=t) (ts:=ts)
  have hok:=zmX ht ts8
  have sA:zb4 (zds t ts):=⟨by omega,ziR tnd,hok⟩
  have sT:zb4 (ts.flatMap fun s=>(words s).map fun x=>(x,s)):=by
   refine ⟨?_,(List.nodup_cons.mp (ziR (t:=t) tnd)).2,fun d hd=>hok d (List.mem_cons_of_mem _ hd)⟩
   have:(zds t ts).length=_+1:=List.length_cons
   omega
  simp only [zaj,tl]
  refine stp ?_
  ((try dsimp only [semS,semE,semT,sem,mkE,mkB,blE,truE,semA,semO,semG,zab,semI,semC,conW,intR,blR,negR,gZ,gS,tZ,tS]);try simp only [e24,slR,zac ga])
  intro p hp
  have hpd:=zdk D' hp
  have ct:cut ((zds t ts).map dW) (some 1) none=(ts.flatMap fun s=>(words s).map fun x=>(x,s)).map dW:=zmT
  rw [ct]
  have kp':Keep [d,l] G' (put G' p (.lst ((ts.flatMap fun s=>(words s).map fun x=>(x,s)).map dW))):=Keep.new hp
  refine ⟨d,l,.ref p,_,rfl,zaA hp D',zac zad,zhg (by have:=sT.1;omega) (fun e he=>by have:=(sT.2.2 e he).2;omega),fun ys G2 hy hl hn hs k2 D2=>?_⟩
  obtain ⟨us,rfl,hus,hu3⟩:=zf1 sT hy hl hn hs
  have ga2:=k2 _ _ had (kp' _ _ had ga)
  have kp2:=(kp.trans kp').trans k2
  have last:∀ us,zb4 us->zaR (us.map dW)->(x.c = "often" -> us=[])->zaf (Gam K C n) XN (tl (tl (tl (tl (tl (tl (tl (tl zaj)))))))) { nx:=fun _ G'=>Q .non G',rt:=Q } [some (.ref d),some (.ref b),some t.w,some (.ref r),some (.ref a),v5,some (.tup (sd.map Sy.w)),some (.tup (fr.map Sy.w)),some (.tup (us.map dW)),none] G2:=by
   intro us hus hu3 hco
   simp only [zaj,tl]
   refine stp ?_
   ((try dsimp only [semS,semE,semT,sem,mkE,mkB,blE,truE,semA,semO,semG,zab,semI,semC,conW,intR,blR,negR,gZ,gS,tZ,tS]);try simp only [e24])
   refine ⟨d,l,.ref a,_,rfl,D2,zac ga2,zhg (by have:=sA.1;omega) (fun e he=>by have:=(sA.2.2 e he).2;omega),fun ys G3 hy hl hn hs k3 D3=>?_⟩
   obtain ⟨op,rfl,hop,ho3⟩:=zf1 sA hy hl hn hs
   exact s9 G3 ⟨sd,op,us,fr⟩ _ _ _ ⟨hsd,hop,hus,hfr,hst,ho3,hu3⟩ hco (kp2.trans k3) D3
  simp only [zaj,tl] at last
  refine stp ?_
  (try dsimp only [semS,semE,semT,sem,mkE,mkB,blE,truE,semA,semO,semG,zab,semI,semC,conW,intR,blR,negR,gZ,gS,tZ,tS])
  refine attC (kp2 _ _ hbd hb) ?_
  ((try dsimp only [semS,semE,semT,sem,mkE,mkB,blE,truE,semA,semO,semG,zab,semI,semC,conW,intR,blR,negR,gZ,gS,tZ,tS]);try simp only [cmpR,zah])
  split
  .refine stp ?_
   ((try dsimp only [semS,semE,semT,sem,mkE,mkB,blE,truE,semA,semO,semG,zab,semI,semC,conW,intR,blR,negR,gZ,gS,tZ,tS]);try simp only [List.length_nil,z0,true_and])
   refine stk K C n ?_
   exact last [] zev .nil (fun _=>rfl)
  .rename_i hne
   refine stk K C n ?_
   exact last us hus hu3 (fun e=>absurd (by rw [e];exact beq_self_eq_true _) hne)
 simp only [zaj,tl] at s6
 show zaf (Gam K C n) XN zaj { nx:=fun _ G'=>Q .non G',rt:=Q } [some (.ref d),some (.ref b),some t.w,none,none,none,none,none,none,none] G
 simp only [zaj]
 refine stp ?_
 ((try dsimp only [semS,semE,semT,sem,mkE,mkB,blE,truE,semA,semO,semG,zab,semI,semC,conW,intR,blR,negR,gZ,gS,tZ,tS]);try simp only [e11])
 refine ⟨t,rfl,by omega,by omega,fun ts hts htl tnd r G1 k1 hr gr=>?_⟩
 have ts8:∀ s∈ts,s.size<=8:=fun s hs=>Nat.le_trans (hts s hs) ht
 have hrd:=zdk D hr
 refine stp ?_
 ((try dsimp only [semS,semE,semT,sem,mkE,mkB,blE,truE,semA,semO,semG,zab,semI,semC,conW,intR,blR,negR,gZ,gS,tZ,tS]);try simp only [zzC,zzL,zzA,Nat.reduceAdd,z1,z2,true_and])
 intro a0 ha0
 have D1:Deal G1 d l:=zcc (S:=[]) k1 (by simp) (by simp) D
 have k2:Keep [] G1 (put G1 a0 (.lst [.tup [.str "begin", t.w]])):=Keep.new ha0
 have g2:(put G1 a0 (.lst [.tup [.str "begin", t.w]])) a0=some (.lst ((zds t []).map dW)):=zad
 have gr2:=k2 _ _ (by simp) gr
 generalize put G1 a0 (.lst [.tup [.str "begin", t.w]])=G2 at k2 g2 gr2 ⊢
 refine stp ?_
 ((try dsimp only [semS,semE,semT,sem,mkE,mkB,blE,truE,semA,semO,semG,zab,semI,semC,conW,intR,blR,negR,gZ,gS,tZ,tS]);try simp only [semI,zbc,zac gr2])
 refine ⟨fun i σ G'=>∃ (a:Addr) (v5:Option W),σ=[some (.ref d),some (.ref b),some t.w,some (.ref r),some (.ref a),v5,none,none,none,none]/\Keep [] G G'/\G a=none/\G' r=some (.lst (ts.map Sy.w))/\G' a=some (.lst ((zds t (ts.take i)).map dW)),
  ⟨a0,none,rfl,k1.trans k2,k1.none (by simp) ha0,gr2,by simpa using g2⟩,?_,?_,?_⟩
 .rintro i σ G' ⟨a,v5,rfl,_,_,gr',_⟩ _
  exact zac gr'
 .rintro i w σ G' hw ⟨a,v5,rfl,kp,ha,gr',ga⟩
  rw [List.getElem?_map] at hw
  obtain ⟨s,hs,rfl⟩:=Option.map_eq_some_iff.mp hw
  have hi:i<ts.length:=(List.getElem?_eq_some_iff.mp hs).1
  have es:ts[i]=s:=(List.getElem?_eq_some_iff.mp hs).2
  (try dsimp only [semS,semE,semT,sem,mkE,mkB,blE,truE,semA,semO,semG,zab,semI,semC,conW,intR,blR,negR,gZ,gS,tZ,tS])
  refine stp ?_
  ((try dsimp only [semS,semE,semT,sem,mkE,mkB,blE,truE,semA,semO,semG,zab,semI,semC,conW,intR,blR,negR,gZ,gS,tZ,tS]);try simp only [e14,semI,semC])
  refine ⟨s,rfl,fun p G3 k3 hp gp=>?_⟩
  simp only [zbc,zac gp]
  refine zkw (fun w=>.tup [w,s.w]) (zac gp) (by rw [zdi,List.length_map];exact sz _ (by have:=za6 s;omega)) ?_ ?_
  .intro w hw K' hK
   simp only [capS,List.length_cons,List.length_nil,List.replicate,List.map_cons,List.map_nil,List.cons_append,List.nil_append,List.append_nil]
   ((try dsimp only [semS,semE,semT,sem,mkE,mkB,blE,truE,semA,semO,semG,zab,semI,semC,conW,intR,blR,negR,gZ,gS,tZ,tS]);try simp only [Option.join_some,zzC,zzL,zzA,Nat.reduceAdd,z2,true_and,if_true])
   exact hK
  .intro p2 hp2
   have ga3:=k3 _ _ (by simp) ga
   have hne:=zba ga3 hp2
   have em:(zdi s).map (fun w=>W.tup [w,s.w])=((words s).map fun x=>(x,s)).map dW:=by
    rw [zdi,List.map_map,List.map_map];rfl
   rw [em]
   simp only [binR,zau hne,ga3,zad]
   have l1:=zg8 (t:=t) (ts:=ts.take i)
   have l2:=@zbD _ ts i
   have l3:=za6 s
   refine ⟨by rw [List.length_map,List.length_map,List.length_map];exact sz _ (by omega),fun p3 hp3=>⟨p3,_,rfl,?_,?_,?_,?_⟩⟩
   .exact ((kp.trans k3).trans (Keep.new hp2)).trans (Keep.new hp3)
   .exact ((kp.trans k3).trans (Keep.new hp2)).none (by simp) hp3
   .exact ((k3.trans (Keep.new hp2)).trans (Keep.new hp3)) _ _ (by simp) gr'
   .rw [zad,List.take_succ_eq_append_getElem hi,es,← List.map_append]
    unfold zds
    rw [List.flatMap_append,List.flatMap_singleton];rfl
 .rintro σ G' ⟨a,v5,rfl,kp,ha,gr',ga⟩
  rw [List.length_map,List.take_length] at ga
  have D':Deal G' d l:=zcc (S:=[]) kp (by simp) (by simp) D
  have had:=zdk D ha
  have sS:zbX ts:=⟨by omega,tnd,ts8⟩
  refine stp ?_
  ((try dsimp only [semS,semE,semT,sem,mkE,mkB,blE,truE,semA,semO,semG,zab,semI,semC,conW,intR,blR,negR,gZ,gS,tZ,tS]);try simp only [e24])
  refine ⟨d,l,.ref r,_,rfl,D',zac gr',srtb (by omega) (fun s hs=>by have:=ts8 s hs;omega),fun ys G3 hy hl hn hs3 k3 D3=>?_⟩
  obtain ⟨sd,rfl,hsd,hst⟩:=zf0 sS hy hl hn hs3
  have ga3:=k3 _ _ had ga
  have kp3:Keep [d,l] G G3:=(Keep.wide kp).trans k3
  refine stp ?_
  ((try dsimp only [semS,semE,semT,sem,mkE,mkB,blE,truE,semA,semO,semG,zab,semI,semC,conW,intR,blR,negR,gZ,gS,tZ,tS]);try simp only [List.length_nil,z0,true_and])
  refine stp ?_
  (try dsimp only [semS,semE,semT,sem,mkE,mkB,blE,truE,semA,semO,semG,zab,semI,semC,conW,intR,blR,negR,gZ,gS,tZ,tS])
  refine attE (kp3 _ _ hbd hb) ?_
  ((try dsimp only [semS,semE,semT,sem,mkE,mkB,blE,truE,semA,semO,semG,zab,semI,semC,conW,intR,blR,negR,gZ,gS,tZ,tS]);try simp only [cmpR,zah,e1,lenS,lenW,ordR,List.length_map])
  have none_:=s6 G3 r a ts sd [] v5 (by omega) tnd ts8 hsd zcf hst had ga3 kp3 D3
  by_cases he:x.e = "last"
  .rw [if_pos (by rw [he,beq_self_eq_true])]
   by_cases h0:(0:Int)<sd.length
   .rw [if_pos (by simpa using h0)]
    refine stp ?_
    ((try dsimp only [semS,semE,semT,sem,mkE,mkB,blE,truE,semA,semO,semG,zab,semI,semC,conW,intR,blR,negR,gZ,gS,tZ,tS]);try simp only [e8,e1,lenS,lenW,List.length_map])
    refine ⟨d,l,sd.length,rfl,D3,⟨h0,by have:=hsd.1;omega⟩,fun i G4 i0 i1 k4 D4=>?_⟩
    obtain ⟨s,hs,es⟩:=zq2 (φ:=Sy.w) i0 i1
    simp only [ixR,es]
    ((try dsimp only [semS,semE,semT,sem,mkE,mkB,blE,truE,semA,semO,semG,zab,semI,semC,conW,intR,blR,negR,gZ,gS,tZ,tS]);try simp only [zzC,zzL,zzA,Nat.reduceAdd,z1,true_and,e8])
    refine ⟨d,l,2,rfl,D4,by decide,fun c G5 c0 c1 k5 D5=>?_⟩
    have kp5:=(kp3.trans k4).trans k5
    have ga5:=k5 _ _ had (k4 _ _ had ga3)
    have tail:∀ fr,zbX fr->zaf (Gam K C n) XN (.cons (.ite (.cmp .Eq (.call 8 (.cons (.var 0) (.cons (.con (.int 3)) .nil))) (.con (.int 0))) (.cons (.asg 7 (.call 24 (.cons (.var 0) (.cons (.var 6) .nil)))) .nil) .nil) .nil)
      { nx:=zaf (Gam K C n) XN (tl (tl (tl (tl (tl (tl zaj)))))) { nx:=fun _ G'=>Q .non G',rt:=Q },rt:=Q } [some (.ref d),some (.ref b),some t.w,some (.ref r),some (.ref a),v5,some (.tup (sd.map Sy.w)),some (.tup (fr.map Sy.w)),none,none] G5:=by
     intro fr hfr
     simp only [zaj,tl]
     refine stp ?_
     ((try dsimp only [semS,semE,semT,sem,mkE,mkB,blE,truE,semA,semO,semG,zab,semI,semC,conW,intR,blR,negR,gZ,gS,tZ,tS]);try simp only [e8])
     refine ⟨d,l,3,rfl,D5,by decide,fun c G6 c0 c1 k6 D6=>?_⟩
     ((try dsimp only [semS,semE,semT,sem,mkE,mkB,blE,truE,semA,semO,semG,zab,semI,semC,conW,intR,blR,negR,gZ,gS,tZ,tS]);try simp only [cmpR,zbM])
     split
     .refine stp ?_
      ((try dsimp only [semS,semE,semT,sem,mkE,mkB,blE,truE,semA,semO,semG,zab,semI,semC,conW,intR,blR,negR,gZ,gS,tZ,tS]);try simp only [e24])
      refine ⟨d,l,.tup (sd.map Sy.w),_,rfl,D6,rfl,srtb (by have:=hsd.1;omega) (fun s hs=>by have:=hsd.2.2 s hs;omega),fun ys G7 hy hl hn hs7 k7 D7=>?_⟩
      obtain ⟨fr',rfl,hfr',_⟩:=zf0 hsd hy hl hn hs7
      refine stk K C n (stk K C n ?_)
      exact s6 G7 r a ts sd fr' v5 (by omega) tnd ts8 hsd hfr' hst had (k7 _ _ had (k6 _ _ had ga5)) ((kp5.trans k6).trans k7) D7
     .refine stk K C n ?_
      refine stk K C n ?_
      exact s6 G6 r a ts sd fr v5 (by omega) tnd ts8 hsd hfr hst had (k6 _ _ had ga5) (kp5.trans k6) D6
    simp only [zaj,tl] at tail
    simp only [binR]
    have hc:c=0\/c=1:=by omega
    rcases hc with rfl | rfl
    .exact .inr ⟨rfl,by simp,tail [] zcf⟩
    .exact .inl ⟨rfl,tail [s] ⟨by show 1<=8;decide,by simp,fun s' hs'=>by rw [List.mem_singleton.mp hs'];exact hsd.2.2 s hs⟩⟩
   .rw [if_neg (by simpa using h0)]
    refine stk K C n ?_
    exact none_
  .rw [if_neg (by simpa using he)]
   simp only [zzB,if_false]
   refine stk K C n ?_
   exact none_
end
end K23
set_option Elab.async false
set_option linter.all false
set_option maxRecDepth 100000
set_option maxHeartbeats 8000000
namespace K23
open PySem PySem.Spec PyProof.Rows L2 L3
def lawA (op:List (Str×Sy)):List Mv:=op.flatMap fun d=>(ansS d.1 d.2).map (Mv.ans d.1 d.2)
def prB (x:Bk) (z:Sd) (s:Sy) (y:Str):Bool:=x.c == "often" || !((z.us.map dW).any fun g=>eqW g (dW (y,s)))
def lawD (x:Bk) (z:Sd):List Mv:=(zb0 x z).flatMap fun s=>((words s).filter (prB x z s)).map fun y=>Mv.dbt y s
theorem zlt (m:Mv):zb1 m=ow (zbm m):=by
 unfold zb1 ow
 cases zbm m <;> rfl
theorem zok {x:Bk} {z:Sd} (hx:x.ok):(lawA z.op++lawD x z).filter (fun m=>may z.sd (zbm m))=pre x z:=by
 unfold lawA lawD pre zgo zgn
 rw [List.filter_append,List.filter_flatMap,List.filter_flatMap]
 congr 1
 .refine congrArg (fun f=>z.op.flatMap f) (funext fun d=>?_)
  rw [List.filter_map];rfl
 .refine congrArg (fun f=>(zb0 x z).flatMap f) (funext fun s=>?_)
  rw [List.filter_map,List.filter_filter]
  refine congrArg (fun f=>List.map _ (List.filter f (words s))) (funext fun y=>?_)
  show (may z.sd (zlE y s)&&prB x z s y)=((!((zmD x z).map dW).any fun g=>eqW g (dW (y,s)))&&may z.sd (zlE y s))
  rw [Bool.and_comm]
  congr 1
  unfold prB zmD
  have n1:(("once" : Str) == "often")=false:=by decide +kernel
  have n2:¬ (("often" : Str) = "once"):=by decide +kernel
  rcases hx with e | e
  .rw [e,n1,if_pos rfl,Bool.false_or]
  .rw [e,beq_self_eq_true,if_neg n2,Bool.true_or];rfl
theorem ziC (op:List (Str×Sy)):(lawA op).map Mv.w=op.flatMap fun d=>((ansS d.1 d.2).map (Mv.ans d.1 d.2)).map Mv.w:=by unfold lawA;rw [List.map_flatMap]
theorem ziB (x:Bk) (z:Sd):(lawD x z).map Mv.w=(zb0 x z).flatMap fun s=>(((words s).filter (prB x z s)).map fun y=>Mv.dbt y s).map Mv.w:=by unfold lawD;rw [List.map_flatMap]
theorem ziI {α β:Type} (h:α->β) (l:List α):(l.flatMap fun s=>[h s])=l.map h:=by
 induction l with
 |nil=>rfl
 |cons a l ih=>rw [List.flatMap_cons,ih];rfl
theorem zbs {x:Bk} {z:Sd} (h:z.ok):zbX (zb0 x z):=by unfold zb0;split;exact h.fr;exact h.sd
theorem zmo {op:List (Str×Sy)} (h:zb4 op):(lawA op).length<=34:=by
 have h1:((lawA op).map Mv.w).length<=2 * op.length:=by rw [ziC];exact zbv _ fun d _=>by rw [List.length_map,List.length_map];exact (zbU d.1 d.2).2.1
 rw [List.length_map] at h1
 have:=h.1;omega
theorem zmn {x:Bk} {z:Sd} (h:z.ok):(lawD x z).length<=16:=by
 have h1:((lawD x z).map Mv.w).length<=2 * (zb0 x z).length:=by rw [ziB];exact zbv _ fun s _=>Nat.le_trans zdv (za6 s)
 rw [List.length_map] at h1
 have:=(zbs (x:=x) h).1;omega
theorem zol {x:Bk} {z:Sd} (h:z.ok):∀ m∈lawA z.op++lawD x z,m.ok:=by
 intro m hm
 rcases List.mem_append.mp hm with hm | hm
 .obtain ⟨d,hd,hm⟩:=List.mem_flatMap.mp hm
  obtain ⟨s,hs,rfl⟩:=List.mem_map.mp hm
  have h1:=(h.op.2.2 d hd).2
  have h2:=(zbU d.1 d.2).2.2 s hs
  exact ⟨by omega,by omega⟩
 .obtain ⟨s,hs,hm⟩:=List.mem_flatMap.mp hm
  obtain ⟨y,hy,rfl⟩:=List.mem_map.mp hm
  have:=(zbs h).2.2 s hs
  exact ⟨(List.mem_filter.mp hy).1,by omega⟩
section
variable {K : Frg} {C : Addr}
theorem zjh {n:Nat} (hn:27<=n) {ws:List W} {G:Hw} {Q:Q3} (h:spMv C ws G Q XN):zaf (Gam K C n) XN zan { nx:=fun _ G'=>Q .non G',rt:=Q } (zap zcC ws) G:=by
 obtain ⟨b,x,z,rfl,hb,hx,hz,h⟩:=h
 have e5:(Gam K C n).fn[5]?=some eSrt:=fnA 5 hn rfl
 have e6:(Gam K C n).fn[6]?=some eInt:=fnA 6 hn rfl
 have e14:(Gam K C n).fn[14]?=some ⟨"_law_words", zc7⟩:=fnA 14 hn rfl
 have e18:(Gam K C n).fn[18]?=some ⟨"_law_answers", zjP⟩:=fnA 18 hn rfl
 have e26:(Gam K C n).fn[26]?=some ⟨"_law_says", zb2⟩:=fnA 26 hn rfl
 have t2:(Gam K C n).mt[2]?=some eApp:=rfl
 have z0:=sz 0 (by decide)
 have z2:=sz 2 (by decide)
 have z3:=sz 3 (by decide)
 have lA:=zmo hz.op
 have lD:=zmn (x:=x) hz
 have s4:∀ (G':Hw) (f:Addr) (v7 v8 v9 v10:Option W),Keep [] G G'->G' f=some (.lst ((lawA z.op++lawD x z).map Mv.w))->zaf (Gam K C n) XN (tl (tl (tl (tl zan)))) { nx:=fun _ G'=>Q .non G',rt:=Q } [some (.ref b),some z.w,some (.tup (z.sd.map Sy.w)),some (.tup (z.op.map dW)),some (.tup (z.us.map dW)),some (.tup (z.fr.map Sy.w)),some (.ref f),v7,v8,v9,v10,none,none,none] G':=by
  intro G' f v7 v8 v9 v10 kp gf
  simp only [zan,tl]
  refine stp ?_
  ((try dsimp only [semS,semE,semT,sem,mkE,mkB,blE,truE,semA,semO,semG,zab,semI,semC,conW,intR,blR,negR,gZ,gS,tZ,tS]);try simp only [List.length_nil,z0,true_and])
  intro p hp
  have k1:Keep [] G' (put G' p (.lst [])):=Keep.new hp
  have g1:(put G' p (.lst [])) p=some (.lst []):=zad
  have gf1:=k1 _ _ (by simp) gf
  have hpf:f≠p:=zba gf hp
  generalize put G' p (.lst [])=G1 at k1 g1 gf1 ⊢
  refine stp ?_
  ((try dsimp only [semS,semE,semT,sem,mkE,mkB,blE,truE,semA,semO,semG,zab,semI,semC,conW,intR,blR,negR,gZ,gS,tZ,tS]);try simp only [semI,zbc,zac gf1])
  refine zc0 (fun m=>if may z.sd (zbm m)=true then [m.w] else []) (fun σ=>∃ v12 v13,σ=[some (.ref b),some z.w,some (.tup (z.sd.map Sy.w)),some (.tup (z.op.map dW)),some (.tup (z.us.map dW)),some (.tup (z.fr.map Sy.w)),some (.ref f),v7,v8,v9,v10,some (.ref p),v12,v13]) ⟨none,none,rfl⟩ g1 (fun G' k=>zac (k f _ (by simpa using hpf) gf1)) ?_ ?_
  .rintro i m hm σ' G2 ⟨v12,v13,rfl⟩ k2 g2 D' hD
   have ok:=zol hz m (List.mem_of_getElem? hm)
   (try dsimp only [semS,semE,semT,sem,mkE,mkB,blE,truE,semA,semO,semG,zab,semI,semC,conW,intR,blR,negR,gZ,gS,tZ,tS])
   refine stp ?_
   ((try dsimp only [semS,semE,semT,sem,mkE,mkB,blE,truE,semA,semO,semG,zab,semI,semC,conW,intR,blR,negR,gZ,gS,tZ,tS]);try simp only [e26])
   refine ⟨m,rfl,ok,?_⟩
   rw [zlt]
   have ll:([]++((lawA z.op++lawD x z).take i).flatMap fun m=>if may z.sd (zbm m)=true then [m.w] else []:List W).length<=60:=by
    rw [List.nil_append,zd4 (fun m=>may z.sd (zbm m)) Mv.w,List.length_map]
    refine Nat.le_trans (List.length_filter_le _ _) (Nat.le_trans zbD ?_)
    rw [List.length_append];omega
   have yes:may z.sd (zbm m)=true->zaf (Gam K C n) XN (.cons (.ex (.mth 2 (.var 11) (.cons (.var 12) .nil))) .nil) { D' with nx:=zaf (Gam K C n) XN .nil D' } [some (.ref b),some z.w,some (.tup (z.sd.map Sy.w)),some (.tup (z.op.map dW)),some (.tup (z.us.map dW)),some (.tup (z.fr.map Sy.w)),some (.ref f),v7,v8,v9,v10,some (.ref p),some m.w,some (ow (zbm m))] G2:=fun hc=>by
    refine stp ?_
    ((try dsimp only [semS,semE,semT,sem,mkE,mkB,blE,truE,semA,semO,semG,zab,semI,semC,conW,intR,blR,negR,gZ,gS,tZ,tS]);try simp only [t2])
    refine ⟨tyL g2,appL g2 (by omega) ?_⟩
    refine stk K C n (stk K C n ?_)
    exact hD _ _ ⟨_,_,rfl⟩ Keep.at (by rw [zad,if_pos hc])
   have no:may z.sd (zbm m)=false->zaf (Gam K C n) XN .nil { D' with nx:=zaf (Gam K C n) XN .nil D' } [some (.ref b),some z.w,some (.tup (z.sd.map Sy.w)),some (.tup (z.op.map dW)),some (.tup (z.us.map dW)),some (.tup (z.fr.map Sy.w)),some (.ref f),v7,v8,v9,v10,some (.ref p),some m.w,some (ow (zbm m))] G2:=fun hc=>by
    refine stk K C n (stk K C n ?_)
    exact hD _ _ ⟨_,_,rfl⟩ Keep.refl (by rw [g2,if_neg (by rw [hc];exact zzN),List.append_nil])
   have hle:=ze3 ok
   generalize zbm m=a at hle yes no ⊢
   refine stp ?_
   cases a with
   |none =>
    ((try dsimp only [semS,semE,semT,sem,mkE,mkB,blE,truE,semA,semO,semG,zab,semI,semC,conW,intR,blR,negR,gZ,gS,tZ,tS]);try simp only [ow,cmpR,isR,if_true])
    exact yes rfl
   |some s =>
    have hs:=hle s rfl
    have hd:=Sy.dep s
    ((try dsimp only [semS,semE,semT,sem,mkE,mkB,blE,truE,semA,semO,semG,zab,semI,semC,conW,intR,blR,negR,gZ,gS,tZ,tS]);try simp only [ow,cmpR,is_w,zzB,if_false])
    cases s with
    |say y =>
     simp only [Sy.w,ix0,zah,beq_self_eq_true,Bool.not_true,zzB,if_false,memR,L3.inR]
     refine ⟨⟨Sy.pur (.say y),zdu z.sd,by simp only [Sy.w] at hd;omega⟩,?_⟩
     split
     .rename_i hc;exact yes hc
     .rename_i hc;exact no (by simpa [may,zqM,Sy.w] using hc)
    |not a=>simp only [Sy.w,ix0,zah,zch,Bool.not_false,if_true];exact yes rfl
    |and a b=>simp only [Sy.w,ix0,zah,zci,Bool.not_false,if_true];exact yes rfl
    |or a b=>simp only [Sy.w,ix0,zah,zcT,Bool.not_false,if_true];exact yes rfl
    |ite a b=>simp only [Sy.w,ix0,zah,zcU,Bool.not_false,if_true];exact yes rfl
  .rintro σ' G2 ⟨v12,v13,rfl⟩ k2 g2
   rw [List.nil_append,zd4 (fun m=>may z.sd (zbm m)) Mv.w,zok hx] at g2
   have k3:Keep [] G G2:=Keep.grow (kp.trans k1) (kp.none (by simp) hp) k2
   have hl:=znW (x:=x) hz
   refine stp ?_
   ((try dsimp only [semS,semE,semT,sem,mkE,mkB,blE,truE,semA,semO,semG,zab,semI,semC,conW,intR,blR,negR,gZ,gS,tZ,tS]);try simp only [e5])
   exact ⟨_,zac g2,znI (by omega) (znX hz),fun s hs=>h s _ (k3.trans (Keep.new hs)) (k3.none (by simp) hs) zad⟩
 simp only [zan,tl] at s4
 have s3:∀ (G':Hw) (f:Addr) (v7 v8:Option W),Keep [] G G'->G f=none->G' f=some (.lst ((lawA z.op).map Mv.w))->zaf (Gam K C n) XN (tl (tl (tl zan))) { nx:=fun _ G'=>Q .non G',rt:=Q } [some (.ref b),some z.w,some (.tup (z.sd.map Sy.w)),some (.tup (z.op.map dW)),some (.tup (z.us.map dW)),some (.tup (z.fr.map Sy.w)),some (.ref f),v7,v8,none,none,none,none,none] G':=by
  intro G' f v7 v8 kp hf gf
  simp only [zan,tl]
  refine stp ?_
  ((try dsimp only [semS,semE,semT,sem,mkE,mkB,blE,truE,semA,semO,semG,zab,semI,semC,conW,intR,blR,negR,gZ,gS,tZ,tS]);try simp only [semI,zzC,zzL,zzA,Nat.reduceAdd,z2,true_and])
  intro p hp
  have k1:Keep [] G' (put G' p (.lst [.tup (z.sd.map Sy.w),.tup (z.fr.map Sy.w)])):=Keep.new hp
  have g1:(put G' p (.lst [.tup (z.sd.map Sy.w),.tup (z.fr.map Sy.w)])) p=some (.lst [.tup (z.sd.map Sy.w),.tup (z.fr.map Sy.w)]):=zad
  have gf1:=k1 _ _ (by simp) gf
  generalize put G' p (.lst [.tup (z.sd.map Sy.w),.tup (z.fr.map Sy.w)])=G1 at k1 g1 gf1 ⊢
  refine attE ((kp.trans k1) _ _ (by simp) hb) ?_
  ((try dsimp only [semS,semE,semT,sem,mkE,mkB,blE,truE,semA,semO,semG,zab,semI,semC,conW,intR,blR,negR,gZ,gS,tZ,tS]);try simp only [cmpR,zah,e6,intS])
  have go:forR ((zb0 x z).map Sy.w) (fun _=>True) { nx:=zaf (Gam K C n) XN (tl (tl (tl (tl zan)))) { nx:=fun _ G'=>Q .non G',rt:=Q },rt:=Q } [some (.ref b),some z.w,some (.tup (z.sd.map Sy.w)),some (.tup (z.op.map dW)),some (.tup (z.us.map dW)),some (.tup (z.fr.map Sy.w)),some (.ref f),v7,v8,none,none,none,none,none] G1
    (fun w D' σ' G'=>semG (.nm 9) w σ' G' fun σ2 G2=>zaf (Gam K C n) XN (.cons (.for (.nm 10) (.val (.call 14 (.cons (.var 9) .nil))) (.cons (.ite (.or (.cmp .Eq (.att (.var 0) "doubts") (.con (.str "often"))) (.cmp .NotIn (.tup (.cons (.var 10) (.cons (.var 9) .nil))) (.var 4))) (.cons (.ex (.mth 2 (.var 6) (.cons (.tup (.cons (.con (.str "doubt")) (.cons (.var 10) (.cons (.var 9) .nil)))) .nil))) .nil) .nil) .nil)) .nil) D' σ2 G2):=by
   refine zc0 (fun s=>(((words s).filter (prB x z s)).map fun y=>Mv.dbt y s).map Mv.w) (fun σ=>∃ v9 v10,σ=[some (.ref b),some z.w,some (.tup (z.sd.map Sy.w)),some (.tup (z.op.map dW)),some (.tup (z.us.map dW)),some (.tup (z.fr.map Sy.w)),some (.ref f),v7,v8,v9,v10,none,none,none]) ⟨none,none,rfl⟩ gf1 (fun _ _=>trivial) ?_ ?_
   .rintro i s hs σ' G2 ⟨v9,v10,rfl⟩ k2 g2 D' hD
    have hsz:=(zbs hz).2.2 s (List.mem_of_getElem? hs)
    have ll:((lawA z.op).map Mv.w++((zb0 x z).take i).flatMap fun s=>(((words s).filter (prB x z s)).map fun y=>Mv.dbt y s).map Mv.w:List W).length<=60:=by
     rw [List.length_append,List.length_map]
     have l1:=zbv (g:=fun s=>(((words s).filter (prB x z s)).map fun y=>Mv.dbt y s).map Mv.w) (n:=2) ((zb0 x z).take i) fun s _=>Nat.le_trans zdv (za6 s)
     have:=(zbs (x:=x) hz).1;have:=@zbD _ (zb0 x z) i;omega
    (try dsimp only [semS,semE,semT,sem,mkE,mkB,blE,truE,semA,semO,semG,zab,semI,semC,conW,intR,blR,negR,gZ,gS,tZ,tS])
    refine stp ?_
    ((try dsimp only [semS,semE,semT,sem,mkE,mkB,blE,truE,semA,semO,semG,zab,semI,semC,conW,intR,blR,negR,gZ,gS,tZ,tS]);try simp only [e14,semI])
    refine ⟨s,rfl,fun r G3 k3 hr gr=>?_⟩
    have hfr:f≠r:=zba g2 hr
    have hbf:b≠f:=zba hb hf
    have hb3:IsBk C G3 b x:=k3 _ _ (by simp) (k2 _ _ (by simpa using hbf) ((kp.trans k1) _ _ (by simp) hb))
    have hbr:b≠r:=zba (k2 _ _ (by simpa using hbf) ((kp.trans k1) _ _ (by simp) hb)) hr
    simp only [zbc,zac gr]
    refine zc0 (xs:=words s) (φ:=W.str) (fun y=>if prB x z s y=true then [Mv.w (.dbt y s)] else []) (fun σ=>∃ v10,σ=[some (.ref b),some z.w,some (.tup (z.sd.map Sy.w)),some (.tup (z.op.map dW)),some (.tup (z.us.map dW)),some (.tup (z.fr.map Sy.w)),some (.ref f),v7,v8,some s.w,v10,none,none,none]) ⟨_,rfl⟩ (k3 _ _ (by simp) g2) (fun G' k=>zac (k r _ (by simpa using Ne.symm hfr) gr)) ?_ ?_
    .rintro j y hj σ' G4 ⟨v10,rfl⟩ k4 g4 D'' hD'
     have hb4:IsBk C G4 b x:=k4 _ _ (by simpa using hbf) hb3
     have lj:((words s).take j).flatMap (fun y=>if prB x z s y=true then [Mv.w (.dbt y s)] else [])=(((words s).take j).filter (prB x z s)).map fun y=>Mv.w (.dbt y s):=zd4 _ _ _
     have lj:(((words s).take j).flatMap (fun y=>if prB x z s y=true then [Mv.w (.dbt y s)] else [])).length<=2:=by
      rw [lj,List.length_map]
      exact Nat.le_trans (List.length_filter_le _ _) (Nat.le_trans zbD (za6 s))
     have yes:prB x z s y=true->zaf (Gam K C n) XN (.cons (.ex (.mth 2 (.var 6) (.cons (.tup (.cons (.con (.str "doubt")) (.cons (.var 10) (.cons (.var 9) .nil)))) .nil))) .nil) { D'' with nx:=zaf (Gam K C n) XN .nil D'' } [some (.ref b),some z.w,some (.tup (z.sd.map Sy.w)),some (.tup (z.op.map dW)),some (.tup (z.us.map dW)),some (.tup (z.fr.map Sy.w)),some (.ref f),v7,v8,some s.w,some (.str y),none,none,none] G4:=fun hc=>by
      refine stp ?_
      ((try dsimp only [semS,semE,semT,sem,mkE,mkB,blE,truE,semA,semO,semG,zab,semI,semC,conW,intR,blR,negR,gZ,gS,tZ,tS]);try simp only [t2,zzC,zzL,zzA,Nat.reduceAdd,z3,true_and])
      refine ⟨tyL g4,appL g4 (by rw [List.length_append];omega) ?_⟩
      refine stk K C n (stk K C n ?_)
      exact hD' _ _ ⟨_,rfl⟩ Keep.at (by rw [zad,if_pos hc];rfl)
     have no:prB x z s y=false->zaf (Gam K C n) XN .nil { D'' with nx:=zaf (Gam K C n) XN .nil D'' } [some (.ref b),some z.w,some (.tup (z.sd.map Sy.w)),some (.tup (z.op.map dW)),some (.tup (z.us.map dW)),some (.tup (z.fr.map Sy.w)),some (.ref f),v7,v8,some s.w,some (.str y),none,none,none] G4:=fun hc=>by
      refine stk K C n (stk K C n ?_)
      exact hD' _ _ ⟨_,rfl⟩ Keep.refl (by rw [g4,if_neg (by rw [hc];exact zzN),List.append_nil])
     (try dsimp only [semS,semE,semT,sem,mkE,mkB,blE,truE,semA,semO,semG,zab,semI,semC,conW,intR,blR,negR,gZ,gS,tZ,tS])
     refine stp ?_
     (try dsimp only [semS,semE,semT,sem,mkE,mkB,blE,truE,semA,semO,semG,zab,semI,semC,conW,intR,blR,negR,gZ,gS,tZ,tS])
     refine attC hb4 ?_
     ((try dsimp only [semS,semE,semT,sem,mkE,mkB,blE,truE,semA,semO,semG,zab,semI,semC,conW,intR,blR,negR,gZ,gS,tZ,tS]);try simp only [cmpR,zah])
     unfold prB at yes no
     cases hc:(x.c==("often" : Str)) with
     |true =>
      rw [hc] at yes
      simp only [if_true]
      exact yes rfl
     |false =>
      rw [hc] at yes no
      simp only [zzB,if_false]
      ((try dsimp only [semS,semE,semT,sem,mkE,mkB,blE,truE,semA,semO,semG,zab,semI,semC,conW,intR,blR,negR,gZ,gS,tZ,tS]);try simp only [cmpR,memR,L3.inR,zzC,zzL,zzA,Nat.reduceAdd,z2,true_and,if_true])
      refine ⟨⟨zct (y,s),zbI fun w hw=>by obtain ⟨m,_,rfl⟩:=List.mem_map.mp hw;exact zct m,?_⟩,?_⟩
      .have:=zeT (y,s)
       have h2:dep (.tup [.str y,s.w])<=s.size+1:=this
       omega
      cases hg:(z.us.map dW).any fun g=>eqW g (dW (y,s)) with
      |true =>
       rw [hg] at no
       rw [show ((z.us.map dW).any fun g=>eqW g (.tup [.str y,s.w]))=true from hg]
       simp only [Bool.not_true,zzB,if_false]
       exact no rfl
      |false =>
       rw [hg] at yes
       rw [show ((z.us.map dW).any fun g=>eqW g (.tup [.str y,s.w]))=false from hg]
       simp only [Bool.not_false,if_true]
       exact yes rfl
    .rintro σ' G4 ⟨v10,rfl⟩ k4 g4
     refine stk K C n ?_
     refine hD _ _ ⟨_,_,rfl⟩ ((Keep.wide (S:=[f]) k3).trans k4) ?_
     rw [g4,zd4 (prB x z s) (fun y=>Mv.w (.dbt y s)),List.map_map]
     rfl
   .rintro σ' G2 ⟨v9,v10,rfl⟩ k2 g2
    simp only [zan,tl]
    exact s4 G2 f v7 v8 v9 v10 (Keep.grow (kp.trans k1) hf k2) (by rw [g2,← ziB,← List.map_append])
  simp only [zan,tl] at go
  unfold zb0 at go
  cases he:(x.e==("last" : Str)) with
  |true =>
   rw [if_pos (by simpa using he)] at go
   refine ixL (zac g1) ?_
   simp only [if_true,at_1]
   exact go
  |false =>
   rw [if_neg (by simpa using he)] at go
   refine ixL (zac g1) ?_
   simp only [zzB,if_false,at_0]
   exact go
 simp only [zan,tl] at s3
 show zaf (Gam K C n) XN zan { nx:=fun _ G'=>Q .non G',rt:=Q } [some (.ref b),some z.w,none,none,none,none,none,none,none,none,none,none,none,none] G
 simp only [zan]
 refine stp ?_
 ((try dsimp only [semS,semE,semT,sem,mkE,mkB,blE,truE,semA,semO,semG,zab,semI,semC,conW,intR,blR,negR,gZ,gS,tZ,tS]);try simp only [Sd.w])
 refine stp ?_
 ((try dsimp only [semS,semE,semT,sem,mkE,mkB,blE,truE,semA,semO,semG,zab,semI,semC,conW,intR,blR,negR,gZ,gS,tZ,tS]);try simp only [List.length_nil,z0,true_and])
 intro f hf
 have k1:Keep [] G (put G f (.lst [])):=Keep.new hf
 have g1:(put G f (.lst [])) f=some (.lst []):=zad
 generalize put G f (.lst [])=G1 at k1 g1 ⊢
 refine stp ?_
 ((try dsimp only [semS,semE,semT,sem,mkE,mkB,blE,truE,semA,semO,semG,zab,semI,semC,conW,intR,blR,negR,gZ,gS,tZ,tS]);try simp only [semI,zbc])
 refine zc0 (fun d=>((ansS d.1 d.2).map (Mv.ans d.1 d.2)).map Mv.w) (fun σ=>∃ v7 v8,σ=[some (.ref b),some z.w,some (.tup (z.sd.map Sy.w)),some (.tup (z.op.map dW)),some (.tup (z.us.map dW)),some (.tup (z.fr.map Sy.w)),some (.ref f),v7,v8,none,none,none,none,none]) ⟨none,none,rfl⟩ g1 (fun _ _=>trivial) ?_ ?_
 .rintro i d hd σ' G2 ⟨v7,v8,rfl⟩ k2 g2 D' hD
  obtain ⟨hok,hds⟩:=hz.op.2.2 d (List.mem_of_getElem? hd)
  obtain ⟨ea,la,sa⟩:=zbU d.1 d.2
  have ll:([]++(z.op.take i).flatMap fun d=>((ansS d.1 d.2).map (Mv.ans d.1 d.2)).map Mv.w:List W).length<=40:=by
   rw [List.nil_append]
   refine Nat.le_trans (zbv (n:=2) _ fun x _=>by rw [List.length_map,List.length_map];exact (zbU x.1 x.2).2.1) ?_
   have:=hz.op.1;have:=@zbD _ z.op i;omega
  (try dsimp only [semS,semE,semT,sem,mkE,mkB,blE,truE,semA,semO,semG,zab,semI,semC,conW,intR,blR,negR,gZ,gS,tZ,tS])
  refine stp ?_
  ((try dsimp only [semS,semE,semT,sem,mkE,mkB,blE,truE,semA,semO,semG,zab,semI,semC,conW,intR,blR,negR,gZ,gS,tZ,tS]);try simp only [e18,semI])
  refine ⟨d.2,d.1,rfl,hok,by omega,fun r G3 k3 hr gr=>?_⟩
  rw [ea] at gr
  have hfr:f≠r:=zba g2 hr
  simp only [zbc,zac gr]
  refine zc0 (fun s=>[Mv.w (.ans d.1 d.2 s)]) (fun σ=>∃ v8,σ=[some (.ref b),some z.w,some (.tup (z.sd.map Sy.w)),some (.tup (z.op.map dW)),some (.tup (z.us.map dW)),some (.tup (z.fr.map Sy.w)),some (.ref f),some (dW d),v8,none,none,none,none,none]) ⟨_,rfl⟩ (k3 _ _ (by simp) g2) (fun G' k=>zac (k r _ (by simpa using Ne.symm hfr) gr)) ?_ ?_
  .rintro j s hj σ' G4 ⟨v8,rfl⟩ k4 g4 D'' hD'
   have lj:(((ansS d.1 d.2).take j).flatMap fun s=>[Mv.w (.ans d.1 d.2 s)]).length<=2:=by
    rw [ziI,List.length_map];exact Nat.le_trans zbD la
   (try dsimp only [semS,semE,semT,sem,mkE,mkB,blE,truE,semA,semO,semG,zab,semI,semC,conW,intR,blR,negR,gZ,gS,tZ,tS])
   refine stp ?_
   ((try dsimp only [semS,semE,semT,sem,mkE,mkB,blE,truE,semA,semO,semG,zab,semI,semC,conW,intR,blR,negR,gZ,gS,tZ,tS]);try simp only [t2,zzC,zzL,zzA,Nat.reduceAdd,z3,true_and])
   refine ⟨tyL g4,appL g4 (by rw [List.length_append];omega) ?_⟩
   refine stk K C n ?_
   exact hD' _ _ ⟨_,rfl⟩ Keep.at zad
  .rintro σ' G4 ⟨v8,rfl⟩ k4 g4
   refine stk K C n ?_
   refine hD _ _ ⟨_,_,rfl⟩ ((Keep.wide (S:=[f]) k3).trans k4) ?_
   rw [g4,ziI,List.map_map]
   rfl
 .rintro σ' G2 ⟨v7,v8,rfl⟩ k2 g2
  exact s3 G2 f v7 v8 (Keep.grow k1 hf k2) hf (by rw [g2,ziC];rfl)
end
end K23
set_option Elab.async false
set_option linter.all false
set_option maxRecDepth 100000
set_option maxHeartbeats 8000000
namespace K23
open PySem PySem.Spec PyProof.Rows L2 L3
structure OnceI (S:List W) (i:Nat) (acc:List W):Prop where
 up:zaR acc
 mem:∀ w,w∈acc↔w∈S.take i
 len:acc.length<=i
 last:acc.getLast?=(S.take i).getLast?
theorem zcN {S:List W} {i:Nat} {w:W} (hw:S[i]?=some w):S.take (i+1)=S.take i++[w]:=by
 obtain ⟨hi,e⟩:=List.getElem?_eq_some_iff.mp hw
 rw [List.take_succ_eq_append_getElem hi,e]
theorem OnceI.same {S acc:List W} {i:Nat} {w:W} (I:OnceI S i acc) (hw:S[i]?=some w) (hz:acc.getLast?=some w):OnceI S (i+1) acc:=by
 refine ⟨I.up,fun v=>?_,Nat.le_succ_of_le I.len,?_⟩
 .rw [zcN hw,List.mem_append,List.mem_singleton,← I.mem v]
  exact ⟨.inl,fun h=>h.elim id fun e=>e▸List.mem_of_getLast? hz⟩
 .rw [zcN hw,List.getLast?_append,hz];rfl
theorem OnceI.add {S acc:List W} {i:Nat} {w:W} (hs:sts S=true) (hc:Can S) (up:S.Pairwise fun x y=>ltB y x=false) (I:OnceI S i acc) (hw:S[i]?=some w) (hz:∀ z,acc.getLast?=some z->z≠w):OnceI S (i+1) (acc++[w]):=by
 obtain ⟨hi,ew⟩:=List.getElem?_eq_some_iff.mp hw
 refine ⟨List.pairwise_append.mpr ⟨I.up,List.pairwise_singleton _ _,fun a ha b hb=>?_⟩,fun v=>?_,?_,?_⟩
 .rw [List.mem_singleton.mp hb]
  have wS:w∈S:=List.mem_of_getElem? hw
  obtain ⟨j,hj,ea⟩:=List.mem_take_iff_getElem.mp ((I.mem a).mp ha)
  have hj':j<i:=by omega
  have le:∀ p q (hp:p<S.length) (hq:q<S.length),p<=q->S[p]=S[q]\/ltW S[p] S[q]=some true:=fun p q hp hq pq=>by
   by_cases e:p=q
   .subst e;exact .inl rfl
   .have:=List.pairwise_iff_getElem.mp up p q hp hq (by omega)
    rcases zcX (zas hs (List.getElem_mem hq)) (zas hs (List.getElem_mem hp)) (hc _ (List.getElem_mem hq) _ (List.getElem_mem hp)) this with e | e
    .exact .inl e.symm
    .exact .inr e
  have ej:S[j]'(by omega)=a:=ea
  rcases le j i (by omega) hi (by omega) with e | e
  .rw [ej,ew] at e
   exfalso
   have hl:acc.getLast?=some (S[i - 1]'(by omega)):=by
    rw [I.last,List.getLast?_take,if_neg (by omega),List.getElem?_eq_getElem (by omega)];rfl
   refine hz _ hl ?_
   have s1:=zas hs (List.getElem_mem (l:=S) (n:=i - 1) (by omega))
   have s2:=zas hs wS
   rcases le j (i - 1) (by omega) (by omega) (by omega) with q | q
   .rw [← q,ej,e]
   .rcases le (i - 1) i (by omega) hi (by omega) with q' | q'
    .rw [q',ew]
    .rw [ej,e] at q
     rw [ew,zmf _ _ s2 s1 q] at q'
     cases q'
  .rw [ej,ew] at e;exact e
 .rw [zcN hw,List.mem_append,List.mem_append,I.mem v]
 .have:=I.len
  rw [List.length_append]
  show acc.length+1<=i+1
  omega
 .rw [zcN hw,List.getLast?_append,List.getLast?_append];rfl
theorem zoF {G:Hw} {a b:W} (ha:∃ l,a=.tup l) (pa:pur a=true) (pb:pur b=true) (h:dep a<=150):eqG G a b=some (eqW a b):=by
 obtain ⟨l,rfl⟩:=ha
 have e:eqG G (.tup l) b=if (pur (.tup l)&&pur b&&decide (min (dep (.tup l)) (dep b)<=150))=true then some (eqW (.tup l) b) else none:=by cases b <;> rfl
 rw [e,pa,pb,if_pos (by simp only [Bool.true_and,decide_eq_true_eq];omega)]
theorem zmW {l:List W} {z:W} (h:l.getLast?=some z):atI l (-1)=some z:=by
 unfold atI ixN
 have hl:l≠[]:=fun e=>by rw [e] at h;cases h
 have h0:0<l.length:=List.length_pos_iff.mpr hl
 rw [if_neg (by decide),if_pos (by omega)]
 rw [List.getLast?_eq_getElem?] at h
 have:(-1+(l.length:Int)).toNat=l.length - 1:=by omega
 simp only [Option.bind_some]
 first | rw [this];exact h | simpa [this] using h
section
variable {K : Frg} {C : Addr}
theorem zl7 {n:Nat} (hn:16<=n) {ws:List W} {G:Hw} {Q:Q3} (h:zif ws G Q XN):zaf (Gam K C n) XN zbx { nx:=fun _ G'=>Q .non G',rt:=Q } (zap zb5 ws) G:=by
 obtain ⟨xs,rfl,hS,hs,h⟩:=h
 have e5:(Gam K C n).fn[5]?=some eSrt:=fnA 5 hn rfl
 have m2:(Gam K C n).mt[2]?=some eApp:=rfl
 have z0:=sz 0 (by decide)
 have pm:=zaM xs
 have up:=zm3 hs hS.lt
 have hs':=ze4 pm hs
 have hc':Can (srt xs):=Can.sub hS.lt fun x hx=>pm.mem_iff.mp hx
 have few:=hS.few
 show zaf (Gam K C n) XN zbx { nx:=fun _ G'=>Q .non G',rt:=Q } [some (.tup xs),none,none] G
 simp only [zbx]
 ((try dsimp only [zaf,semS,semE,semT,sem,mkE,mkB,blE,truE,semA,semO,semG,zab,semI,semC,conW,intR,blR,negR,gZ,gS,tZ,tS]);try simp only [List.length_nil,z0,true_and,e5,semI])
 intro o ho
 refine ⟨xs,rfl,hS,fun s hso=>?_⟩
 generalize eG:put (put G o (.lst [])) s (.lst (srt xs))=G1
 have hne:s≠o:=by rintro rfl;rw [zad] at hso;cases hso
 have g1:G1 s=some (.lst (srt xs)):=by rw [← eG];exact zad
 have g2:G1 o=some (.lst []):=by rw [← eG,zau (Ne.symm hne)];exact zad
 have k1:Keep [] G G1:=by rw [← eG];exact (Keep.new ho).trans (Keep.new hso)
 simp only [zbc,zac g1]
 refine ⟨fun i σ G'=>∃ v2 acc,σ=[some (.tup xs),some (.ref o),v2]/\Keep [o] G1 G'/\G' o=some (.lst acc)/\OnceI (srt xs) i acc/\i<=(srt xs).length,⟨none,[],rfl,Keep.refl,g2,⟨.nil,fun w=>by simp,Nat.le_refl _,rfl⟩,Nat.zero_le _⟩,?_,?_,?_⟩
 .rintro i σ G' ⟨v2,acc,rfl,kp,_⟩ _
  exact zac (kp _ _ (by simpa using hne) g1)
 .rintro i w σ G' hw ⟨v2,acc,rfl,kp,go,I,hil⟩
  have hi:i<(srt xs).length:=(List.getElem?_eq_some_iff.mp hw).1
  have al:acc.length<1000:=by have:=I.len;rw [pm.length_eq] at hi;omega
  have wx:w∈xs:=pm.mem_iff.mp (List.mem_of_getElem? hw)
  have app:(∀ z,acc.getLast?=some z->z≠w)->tyW G' (.ref o) "list" /\ appS (.ref o) [w] G' fun _ G2=>∃ v2 acc,[some (W.tup xs),some (W.ref o),some w]=[some (W.tup xs),some (W.ref o),v2]/\Keep [o] G1 G2/\G2 o=some (.lst acc)/\OnceI (srt xs) (i+1) acc/\i+1<=(srt xs).length:=fun hz =>
   ⟨tyL go,appL go al ⟨_,_,rfl,kp.trans (Keep.put (by simp)),zad,I.add hs' hc' up hw hz,hi⟩⟩
  cases acc with
  |nil =>
   ((try dsimp only [zaf,semS,semE,semT,sem,mkE,mkB,blE,truE,semA,semO,semG,zab,semI,semC,conW,intR,blR,negR,gZ,gS,tZ,tS]);try simp only [truW,go,List.isEmpty_nil,Bool.not_true,Bool.not_false,if_true,m2])
   exact app fun z hz=>nomatch hz
  |cons a l =>
   obtain ⟨z,hz⟩:∃ z,(a::l).getLast?=some z:=⟨_,List.getLast?_eq_some_getLast (List.cons_ne_nil a l)⟩
   have zx:z∈xs:=pm.mem_iff.mp (List.mem_of_mem_take ((I.mem z).mp (List.mem_of_getLast? hz)))
   obtain ⟨T,hT⟩:=hS.hd
   have zt:∃ l,z=.tup l:=by
    have:=hT z zx
    cases z <;> first | exact ⟨_,rfl⟩ | cases this
   have zd:dep z<=150:=by have:=zc2 zx;have:=hS.deep;omega
   have zp:=L3.purs_mem hS.pure z zx
   have wp:=L3.purs_mem hS.pure w wx
   ((try dsimp only [zaf,semS,semE,semT,sem,mkE,mkB,blE,truE,semA,semO,semG,zab,semI,semC,conW,intR,blR,negR,gZ,gS,tZ,tS]);try simp only [truW,go,List.isEmpty_cons,Bool.not_true,Bool.not_false,zzB,if_false,m2,ixR,zmW hz,cmpR,zoF zt zp wp zd])
   cases q:eqW z w with
   |true =>
    simp only [Bool.not_true,zzB,if_false]
    have e:z=w:=zjM z w (zas hs zx) q
    exact ⟨_,_,rfl,kp,rfl,I.same hw (by rw [hz,e]),hi⟩
   |false =>
    simp only [Bool.not_false,if_true]
    refine app fun y hy e=>?_
    rw [hz] at hy
    cases hy
    rw [e,znG (zas hs wx)] at q
    cases q
 .rintro σ G' ⟨v2,acc,rfl,kp,go,I,_⟩
  (try dsimp only [zaf,semS,semE,semT,sem,mkE,mkB,blE,truE,semA,semO,semG,zab,semI,semC,conW,intR,blR,negR,gZ,gS,tZ,tS])
  have tk:(srt xs).take (srt xs).length=srt xs:=List.take_length
  refine h acc (zcq fun w hw=>zas hs' (by rw [← tk];exact (I.mem w).mp hw)) I.up (fun w=>by rw [I.mem w,tk];exact pm.mem_iff) (by rw [← pm.length_eq];exact I.len) o G' ?_ ho go
  exact fun c u _ e=>kp c u (by rw [List.mem_singleton];rintro rfl;rw [ho] at e;cases e) (k1 c u (by simp) e)
theorem zms {n:Nat} (hn:22<=n) {ws:List W} {G:Hw} {Q:Q3} (h:zet ws G Q XN):zaf (Gam K C n) XN zfJ { nx:=fun _ G'=>Q .non G',rt:=Q } (zap zhz ws) G:=by
 obtain ⟨a,b,rfl,hS,hs,na,nb,h⟩:=h
 have e16:(Gam K C n).fn[16]?=some ⟨"sorted_once", zif⟩:=fnA 16 hn rfl
 have e19:(Gam K C n).fn[19]?=some eTup:=fnA 19 hn rfl
 show zaf (Gam K C n) XN zfJ { nx:=fun _ G'=>Q .non G',rt:=Q } [some (.tup a),some (.tup b)] G
 simp only [zfJ]
 refine stp ?_
 ((try dsimp only [semS,semE,semT,sem,mkE,mkB,blE,truE,semA,semO,semG,zab,semI,semC,conW,intR,blR,negR,gZ,gS,tZ,tS]);try simp only [e16,e19,binR])
 have few:=hS.few
 rw [List.length_append] at few
 refine ⟨sz _ (by omega),a++b,rfl,hS,hs,fun us su pu hm hl r G' k hr g=>?_⟩
 have sq:za8 G' (.ref r)=some us:=zac g
 simp only [tupS,sq]
 rw [zpd hs hS.lt na nb su pu hm]
 exact h G' k
theorem zls {n:Nat} (hn:15<=n) {ws:List W} {G:Hw} {Q:Q3} (h:zb2 ws G Q XN):zaf (Gam K C n) XN zdy { nx:=fun _ G'=>Q .non G',rt:=Q } (zap zfo ws) G:=by
 obtain ⟨m,rfl,ok,h⟩:=h
 have e12:(Gam K C n).fn[12]?=some ⟨"said_by", zfX⟩:=fnA 12 hn rfl
 show zaf (Gam K C n) XN zdy { nx:=fun _ G'=>Q .non G',rt:=Q } [some m.w] G
 simp only [zdy]
 cases m with
 |ans x t s =>
  simp only [Mv.w]
  ((try dsimp only [zaf,semS,semE,semT,sem,mkE,mkB,blE,truE,semA,semO,semG,zab,semI,semC,conW,intR,blR,negR,gZ,gS,tZ,tS]);try simp only [ix0,ix2,cmpR,zah,beq_self_eq_true,if_true])
  exact h
 |dbt x t =>
  simp only [Mv.w]
  ((try dsimp only [zaf,semS,semE,semT,sem,mkE,mkB,blE,truE,semA,semO,semG,zab,semI,semC,conW,intR,blR,negR,gZ,gS,tZ,tS]);try simp only [ix0,ix2,cmpR,zah,zat,zzB,if_false,e12,slR])
  rw [cut3]
  refine ⟨t,x,rfl,.inl ok.1,?_⟩
  rw [zfR] at h
  exact h
theorem zmd {n:Nat} (hn:17<=n) {ws:List W} {G:Hw} {Q:Q3} (h:zig ws G Q XN):zaf (Gam K C n) XN zdA { nx:=fun _ G'=>Q .non G',rt:=Q } (zap zfs ws) G:=by
 obtain ⟨m,r,rfl,ok,rk,h⟩:=h
 have e15:(Gam K C n).fn[15]?=some ⟨"told_by", zb2⟩:=fnA 15 hn rfl
 have z0:=sz 0 (by decide)
 have z1:=sz 1 (by decide)
 have z2:=sz 2 (by decide)
 show zaf (Gam K C n) XN zdA { nx:=fun _ G'=>Q .non G',rt:=Q } [some m.w,some r.w] G
 simp only [zdA]
 refine stp ?_
 cases r with
 |dbt x =>
  obtain ⟨s,es,hx⟩:=rk
  have em:made m (.dbt x)=[(x,s)]:=by simp only [made,es]
  have et:zb1 m=s.w:=by simp only [zb1,es]
  rw [em] at h
  simp only [Ry.w]
  ((try dsimp only [semS,semE,semT,sem,mkE,mkB,blE,truE,semA,semO,semG,zab,semI,semC,conW,intR,blR,negR,gZ,gS,tZ,tS]);try simp only [ix0,ix1,cmpR,zah,beq_self_eq_true,if_true,e15])
  refine ⟨m,rfl,ok,?_⟩
  ((try dsimp only [semS,semE,semT,sem,mkE,mkB,blE,truE,semA,semO,semG,zab,semI,semC,conW,intR,blR,negR,gZ,gS,tZ,tS]);try simp only [zzC,zzL,zzA,Nat.reduceAdd,z1,z2,true_and])
  rw [et]
  exact h
 |ans s =>
  simp only [Ry.w]
  ((try dsimp only [semS,semE,semT,sem,mkE,mkB,blE,truE,semA,semO,semG,zab,semI,semC,conW,intR,blR,negR,gZ,gS,tZ,tS]);try simp only [ix0,cmpR,zah,zaJ,zzB,if_false,List.length_nil,z0,true_and])
  exact h
theorem zkK {n:Nat} (hn:28<=n) {ws:List W} {G:Hw} {Q:Q3} (h:zfa ws G Q XN):zaf (Gam K C n) XN zc3 { nx:=fun _ G'=>Q .non G',rt:=Q } (zap zdI ws) G:=by
 obtain ⟨m,r,rfl,ok,rk,h⟩:=h
 have e12:(Gam K C n).fn[12]?=some ⟨"said_by", zfX⟩:=fnA 12 hn rfl
 have e15:(Gam K C n).fn[15]?=some ⟨"told_by", zb2⟩:=fnA 15 hn rfl
 have z0:=sz 0 (by decide)
 have z1:=sz 1 (by decide)
 have z2:=sz 2 (by decide)
 show zaf (Gam K C n) XN zc3 { nx:=fun _ G'=>Q .non G',rt:=Q } [some m.w,some r.w,none] G
 simp only [zc3]
 refine stp ?_
 cases r with
 |ans s =>
  simp only [Ry.w]
  ((try dsimp only [semS,semE,semT,sem,mkE,mkB,blE,truE,semA,semO,semG,zab,semI,semC,conW,intR,blR,negR,gZ,gS,tZ,tS]);try simp only [ix0,cmpR,zah,beq_self_eq_true,if_true])
  refine stp ?_
  ((try dsimp only [semS,semE,semT,sem,mkE,mkB,blE,truE,semA,semO,semG,zab,semI,semC,conW,intR,blR,negR,gZ,gS,tZ,tS]);try simp only [ix1,zzC,zzL,zzA,Nat.reduceAdd,z1,true_and])
  exact h
 |dbt x =>
  obtain ⟨s,es,hx⟩:=rk
  have em:heard m (.dbt x)=if x = "if" \/ x = "not" then [kid1 s] else []:=by simp only [heard,es]
  have et:zb1 m=s.w:=by simp only [zb1,es]
  simp only [Ry.w]
  ((try dsimp only [semS,semE,semT,sem,mkE,mkB,blE,truE,semA,semO,semG,zab,semI,semC,conW,intR,blR,negR,gZ,gS,tZ,tS]);try simp only [ix0,cmpR,zah,zat,zzB,if_false])
  refine stk K C n ?_
  refine stp ?_
  ((try dsimp only [semS,semE,semT,sem,mkE,mkB,blE,truE,semA,semO,semG,zab,semI,semC,conW,intR,blR,negR,gZ,gS,tZ,tS]);try simp only [ix1,e12,e15])
  refine ⟨m,rfl,ok,?_⟩
  ((try dsimp only [semS,semE,semT,sem,mkE,mkB,blE,truE,semA,semO,semG,zab,semI,semC,conW,intR,blR,negR,gZ,gS,tZ,tS]);try simp only [zzC,zzL,zzA,Nat.reduceAdd,z2,true_and])
  rw [et]
  refine ⟨s,x,rfl,.inl hx,?_⟩
  refine stp ?_
  rw [em] at h
  unfold said
  by_cases hc:x = "if" \/ x = "not"
  .rw [if_pos hc] at h ⊢
   ((try dsimp only [semS,semE,semT,sem,mkE,mkB,blE,truE,semA,semO,semG,zab,semI,semC,conW,intR,blR,negR,gZ,gS,tZ,tS]);try simp only [cmpR,is_w,zzB,if_false,zzC,zzL,zzA,Nat.reduceAdd,z1,true_and])
   exact h
  .rw [if_neg hc] at h ⊢
   ((try dsimp only [semS,semE,semT,sem,mkE,mkB,blE,truE,semA,semO,semG,zab,semI,semC,conW,intR,blR,negR,gZ,gS,tZ,tS]);try simp only [cmpR,isR,if_true,List.length_nil,z0,true_and])
   exact h
end
end K23
set_option Elab.async false
set_option linter.all false
set_option maxRecDepth 100000
set_option maxHeartbeats 8000000
namespace K23
open PySem PySem.Spec PyProof.Rows L2 L3
def Rp (w:W):Prop:=(∃ x,w=.tup [.str "doubt", .str x])\/∃ s:Sy,s.size<=21/\w=.tup [.str "answer", s.w]
theorem Rp.pur {w:W} (h:Rp w):L3.pur w=true:=by
 rcases h with ⟨x,rfl⟩ | ⟨s,_,rfl⟩
 .simp [L3.pur,purs]
 .simp [L3.pur,purs,s.pur]
theorem Rp.dep {w:W} (h:Rp w):L3.dep w<=22:=by
 rcases h with ⟨x,rfl⟩ | ⟨s,hs,rfl⟩
 .simp [L3.dep,deps]
 .have:=Sy.dep s;simp only [L3.dep,deps];omega
theorem Rp.lt {w v:W} (h:Rp w) (h':Rp v):(ltW w v).isSome=true:=by
 rcases h with ⟨x,rfl⟩ | ⟨s,_,rfl⟩ <;> rcases h' with ⟨y,rfl⟩ | ⟨t,_,rfl⟩
 .exact zbA (ltS1 (by rw [ltW];rfl))
 .exact zar zat
 .exact zar zaJ
 .exact zbA (ltS1 (Sy.lt s t))
theorem Rp.hd {w:W} (h:Rp w):hdT w=some "str" := by
 rcases h with ⟨x,rfl⟩ | ⟨s,_,rfl⟩ <;> rfl
theorem znb {m:Mv} (ok:m.ok):(∀ w∈preA m++preB m,Rp w)/\(preA m).length<=2/\(preB m).length<=2:=by
 refine ⟨fun w hw=>?_,?_,?_⟩
 .rcases List.mem_append.mp hw with hw | hw
  .unfold preA at hw
   split at hw
   .rename_i s e
    obtain ⟨v,hv,rfl⟩:=List.mem_map.mp hw
    obtain ⟨x,_,rfl⟩:=List.mem_map.mp hv
    exact .inl ⟨x,rfl⟩
   .cases hw
  .cases m with
   |ans x t u=>cases hw
   |dbt x t =>
    obtain ⟨v,hv,rfl⟩:=List.mem_map.mp (show w∈(ans x t).map _ from hw)
    obtain ⟨us,e,_,hs⟩:=zd8 (x:=x) (t:=t)
    rw [e] at hv
    obtain ⟨u,hu,rfl⟩:=List.mem_map.mp hv
    exact .inr ⟨u,Nat.le_trans (hs u hu) ok.2,rfl⟩
 .unfold preA
  split
  .rename_i s e
   have:=za6 s
   simpa [zdi] using this
  .exact Nat.zero_le _
 .cases m with
  |ans x t u=>exact Nat.zero_le _
  |dbt x t =>
   obtain ⟨us,e,hl,_⟩:=zd8 (x:=x) (t:=t)
   show ((ans x t).map _).length<=2
   rw [e,List.length_map,List.length_map];exact hl
theorem zlw {m:Mv} (ok:m.ok):Srtb (preA m++preB m):=by
 obtain ⟨h,l1,l2⟩:=znb ok
 exact ⟨zbI fun w hw=>(h w hw).pur,fun x hx y hy=>(h x hx).lt (h y hy),by rw [List.length_append];omega,Nat.lt_of_le_of_lt (zcK fun w hw=>(h w hw).dep) (by decide),⟨"str", fun x hx=>(h x hx).hd⟩⟩
theorem zop {G:Hw} {R:Q3} (s:Sy):isR true s.w .non G R=R (.bl true) G:=by
 obtain ⟨l,e⟩:=s.tup
 rw [e];rfl
section
variable {K : Frg} {C : Addr}
theorem zin {m:Mv} (ok:m.ok) {G G':Hw} {p:Addr} {Q:Q3} (h:Fr (repl m) G Q) (kp:Keep [] G G') (g:G' p=some (.lst (preA m++preB m))):zfZ [.ref p] G' Q :=
 ⟨_,zac g,zlw ok,fun r hr=>h r _ (kp.trans (Keep.new hr)) (kp.none (by simp) hr) zad⟩
theorem zkr {n:Nat} (hn:32<=n) {ws:List W} {G:Hw} {Q:Q3} (h:zid ws G Q XN):zaf (Gam K C n) XN zaI { nx:=fun _ G'=>Q .non G',rt:=Q } (zap zbJ ws) G:=by
 obtain ⟨m,rfl,ok,h⟩:=h
 have e5:(Gam K C n).fn[5]?=some eSrt:=fnAt 5 (by omega) rfl
 have e14:(Gam K C n).fn[14]?=some ⟨"_law_words", zc7⟩:=fnAt 14 (by omega) rfl
 have e18:(Gam K C n).fn[18]?=some ⟨"_law_answers", zjP⟩:=fnAt 18 (by omega) rfl
 have e26:(Gam K C n).fn[26]?=some ⟨"_law_says", zb2⟩:=fnAt 26 (by omega) rfl
 have z0:=sz 0 (by decide)
 have z2:=sz 2 (by decide)
 obtain ⟨_,la,lb⟩:=znb ok
 show zaf (Gam K C n) XN zaI { nx:=fun _ G'=>Q .non G',rt:=Q } [some m.w,none,none] G
 simp only [zaI]
 refine stp ?_
 ((try dsimp only [semS,semE,semT,sem,mkE,mkB,blE,truE,semA,semO,semG,zab,semI,semC,conW,intR,blR,negR,gZ,gS,tZ,tS]);try simp only [e26])
 refine ⟨m,rfl,ok,?_⟩
 refine stp ?_
 ((try dsimp only [semS,semE,semT,sem,mkE,mkB,blE,truE,semA,semO,semG,zab,semI,semC,conW,intR,blR,negR,gZ,gS,tZ,tS]);try simp only [List.length_nil,z0,true_and])
 intro p hp
 have k1:Keep [] G (put G p (.lst [])):=Keep.new hp
 have g1:(put G p (.lst [])) p=some (.lst []):=zad
 generalize put G p (.lst [])=G1 at k1 g1 ⊢
 have go:∀ (G2:Hw) (p:Addr),Keep [] G G2->G2 p=some (.lst (preA m))->zaf (Gam K C n) XN (tl (tl (tl zaI))) { nx:=fun _ G'=>Q .non G',rt:=Q } [some m.w,some (zb1 m),some (.ref p)] G2:=by
  intro G2 p k2 g2
  simp only [zaI,tl]
  refine stp ?_
  ((try dsimp only [semS,semE,semT,sem,mkE,mkB,blE,truE,semA,semO,semG,zab,semI,semC,conW,intR,blR,negR,gZ,gS,tZ,tS]);try simp only [cmpR,e18])
  cases m with
  |ans x t s =>
   simp only [Mv.w,ix0,zah,zaJ,zzB,if_false]
   refine stn (Γ:=Gam K C n) (E:=XN) ?_
   refine stp ?_
   ((try dsimp only [semS,semE,semT,sem,mkE,mkB,blE,truE,semA,semO,semG,zab,semI,semC,conW,intR,blR,negR,gZ,gS,tZ,tS]);try simp only [e5])
   exact zin ok h k2 (by rw [g2];simp [preB])
  |dbt x t =>
   simp only [Mv.w,ix0,zah,beq_self_eq_true,if_true]
   refine stp ?_
   ((try dsimp only [semS,semE,semT,sem,mkE,mkB,blE,truE,semA,semO,semG,zab,semI,semC,conW,intR,blR,negR,gZ,gS,tZ,tS]);try simp only [e18,semI,semC,ix1,ix2,zzC,zzL,zzA,Nat.reduceAdd,z2,true_and])
   refine ⟨t,x,rfl,.inl ok.1,ok.2,fun r G3 k3 hr g3=>?_⟩
   simp only [zbc,zac g3]
   refine zkw (fun a=>.tup [.str "answer", a]) (zac g3) (by have:=lb;simp only [preB,List.length_map] at this;exact sz _ (by omega)) ?_ ?_
   .intro w hw K' hK
    simp only [capS,List.length_cons,List.length_nil,List.replicate,List.map_nil,List.append_nil]
    ((try dsimp only [semS,semE,semT,sem,mkE,mkB,blE,truE,semA,semO,semG,zab,semI,semC,conW,intR,blR,negR,gZ,gS,tZ,tS]);try simp only [zzC,zzL,zzA,Nat.reduceAdd,z2,true_and,if_true])
    exact hK
   .intro r2 hr2
    have hne:=zba (k3 _ _ (by simp) g2) hr2
    simp only [binR,zau hne,k3 _ _ (by simp) g2,zad]
    refine ⟨sz _ (by show _+(preB (.dbt x t)).length<=1000;omega),fun r3 hr3=>?_⟩
    refine stn (Γ:=Gam K C n) (E:=XN) ?_
    refine stp ?_
    ((try dsimp only [semS,semE,semT,sem,mkE,mkB,blE,truE,semA,semO,semG,zab,semI,semC,conW,intR,blR,negR,gZ,gS,tZ,tS]);try simp only [e5])
    exact zin (p:=r3) ok h (((k2.trans k3).trans (Keep.new hr2)).trans (Keep.new hr3)) zad
 simp only [zaI,tl] at go
 refine stp ?_
 ((try dsimp only [semS,semE,semT,sem,mkE,mkB,blE,truE,semA,semO,semG,zab,semI,semC,conW,intR,blR,negR,gZ,gS,tZ,tS]);try simp only [cmpR,e14])
 cases e:zbm m with
 |none =>
  have ew:zb1 m=.non:=by simp only [zb1,e]
  have ea:preA m=[]:=by simp only [preA,e]
  rw [ew] at go ⊢
  simp only [isR,if_true,zzB,if_false]
  refine stn (Γ:=Gam K C n) (E:=XN) ?_
  exact go G1 p k1 (by rw [ea];exact g1)
 |some s =>
  have ew:zb1 m=s.w:=by simp only [zb1,e]
  have ea:preA m=(zdi s).map fun w=>.tup [.str "doubt", w]:=by simp only [preA,e]
  rw [ew] at go ⊢
  rw [zop]
  simp only [if_true]
  refine stp ?_
  ((try dsimp only [semS,semE,semT,sem,mkE,mkB,blE,truE,semA,semO,semG,zab,semI,semC,conW,intR,blR,negR,gZ,gS,tZ,tS]);try simp only [e14,semI,semC])
  refine ⟨s,rfl,fun r G3 k3 hr g3=>?_⟩
  simp only [zbc,zac g3]
  have la':(zdi s).length<=2:=by rw [ea,List.length_map] at la;exact la
  refine zkw (fun w=>.tup [.str "doubt", w]) (zac g3) (sz _ (by omega)) ?_ ?_
  .intro w hw K' hK
   simp only [capS,List.length_cons,List.length_nil,List.replicate,List.map_nil,List.append_nil]
   ((try dsimp only [semS,semE,semT,sem,mkE,mkB,blE,truE,semA,semO,semG,zab,semI,semC,conW,intR,blR,negR,gZ,gS,tZ,tS]);try simp only [zzC,zzL,zzA,Nat.reduceAdd,z2,true_and,if_true])
   exact hK
  .intro r2 hr2
   refine stn (Γ:=Gam K C n) (E:=XN) ?_
   exact go _ r2 ((k1.trans k3).trans (Keep.new hr2)) (by rw [zad,ea])
end
end K23
set_option Elab.async false
set_option linter.all false
set_option maxRecDepth 100000
set_option maxHeartbeats 8000000
namespace K23
open PySem PySem.Spec PyProof.Rows L2 L3
theorem zdw {x:Bk} {op:List (Str×Sy)} {y:Str} {t s:Sy} (h:x.b = "once"):zhH x op (.ans y t s)=(op.map dW).filter (fun w=>!(eqW w (dW (y,t)))):=if_pos h
theorem zhG {x:Bk} {op:List (Str×Sy)} {y:Str} {t s:Sy} (h:¬ x.b = "once"):zhH x op (.ans y t s)=op.map dW:=if_neg h
theorem zeZ {x:Bk} {us:List (Str×Sy)} {y:Str} {t:Sy} (h:x.c = "once"):zeb x us (.dbt y t)=uni (us.map dW) [dW (y,t)]:=if_pos h
theorem ze0 {x:Bk} {us:List (Str×Sy)} {y:Str} {t s:Sy} (h:x.c = "once"):zeb x us (.ans y t s)=us.map dW:=if_pos h
theorem zhf {x:Bk} {us:List (Str×Sy)} {m:Mv} (h:¬ x.c = "once"):zeb x us m=[]:=if_neg h
theorem znf {α:Type} (a:α):[a].Nodup:=List.nodup_cons.mpr ⟨(fun h=>nomatch h),List.nodup_nil⟩
theorem zdZ (x:Bk) (op:List (Str×Sy)) (m:Mv):∃ zs:List (Str×Sy),zhH x op m=zs.map dW/\zs.Sublist op:=by
 cases m with
 |ans y t s =>
  by_cases h:x.b = "once"
  .rw [zdw h,List.filter_map]
   exact ⟨_,rfl,List.filter_sublist⟩
  .exact ⟨op,zhG h,List.Sublist.refl _⟩
 |dbt y t=>exact ⟨op,rfl,List.Sublist.refl _⟩
theorem zii {α:Type} {l:List α} (h:l.length<=1):l.Nodup:=by
 match l,h with
 | [],_=>exact List.nodup_nil
 | [a],_=>exact znf a
theorem zmu {as bs:List (Str×Sy)} (h:as.Nodup) (hb:bs.length<=1) (hl:as.length<=17) (ha:∀ d∈as,d.2.size<=21) (hb':∀ d∈bs,d.2.size<=21) :
  Srtb (as.map dW++bs.map dW)/\sts (as.map dW++bs.map dW)=true/\(as.map dW).Nodup/\(bs.map dW).Nodup:=by
 rw [← List.map_append]
 refine ⟨zhg (by rw [List.length_append];omega) fun d hd=>?_,zh7 _,zb7 (fun _ _=>zgX) h,zb7 (fun _ _=>zgX) (zii hb)⟩
 rcases List.mem_append.mp hd with hd | hd
 .exact ha d hd
 .exact hb' d hd
theorem zqy {as bs:List Sy} (h:as.Nodup) (hb:bs.length<=1) (hl:as.length<=17) (ha:∀ d∈as,d.size<=21) (hb':∀ d∈bs,d.size<=21) :
  Srtb (as.map Sy.w++bs.map Sy.w)/\sts (as.map Sy.w++bs.map Sy.w)=true/\(as.map Sy.w).Nodup/\(bs.map Sy.w).Nodup:=by
 rw [← List.map_append]
 refine ⟨srtb (by rw [List.length_append];omega) fun d hd=>?_,zm2 _,zb7 (fun _ _=>Sy.inj) h,zb7 (fun _ _=>Sy.inj) (zii hb)⟩
 rcases List.mem_append.mp hd with hd | hd
 .have:=ha d hd;omega
 .have:=hb' d hd;omega
theorem zc1 {α:Type} (p:α->Bool):∀ l:List α,(l.filterMap fun w=>if p w=true then none else some w)=l.filter fun w=>!(p w)
 | []=>rfl
 |a::l=>by
  rw [List.filterMap_cons,List.filter_cons,zc1 p l]
  cases p a <;> rfl
theorem cutA {a b c d:W}:cut [a,b,c,d] none (some 3)=[a,b,c]:=by rfl
theorem zcH {m:Mv} {r:Ry} (ok:m.ok) (rk:r.ok m):(heard m r).length<=1/\∀ s∈heard m r,s.size<=21:=by
 cases r with
 |ans s=>exact ⟨Nat.le_refl _,fun s' h=>by rw [List.mem_singleton.mp h];exact rk⟩
 |dbt x =>
  obtain ⟨s,es,_⟩:=rk
  have em:heard m (.dbt x)=if x = "if" \/ x = "not" then [kid1 s] else []:=by simp only [heard,es]
  rw [em]
  split
  .exact ⟨Nat.le_refl _,fun s' h=>by rw [List.mem_singleton.mp h];exact Nat.le_trans (zfC s) (ze3 ok s es)⟩
  .exact ⟨Nat.zero_le _,fun s' h=>nomatch h⟩
theorem zde {m:Mv} {r:Ry} (ok:m.ok) (rk:r.ok m):(made m r).length<=1/\∀ d∈made m r,d.2.size<=21:=by
 cases r with
 |ans s=>exact ⟨Nat.zero_le _,fun s' h=>nomatch h⟩
 |dbt x =>
  obtain ⟨s,es,_⟩:=rk
  have em:made m (.dbt x)=[(x,s)]:=by simp only [made,es]
  rw [em]
  exact ⟨Nat.le_refl _,fun s' h=>by rw [List.mem_singleton.mp h];exact ze3 ok s es⟩
section
variable {K : Frg} {C : Addr}
theorem zl6 {n:Nat} (hn:29<=n) {ws:List W} {G:Hw} {Q:Q3} (h:zie C ws G Q XN):zaf (Gam K C n) XN za4 { nx:=fun _ G'=>Q .non G',rt:=Q } (zap zcx ws) G:=by
 obtain ⟨b,x,op,m,mk,rfl,hb,hop,ok,mk1,mk2,h⟩:=h
 have e19:(Gam K C n).fn[19]?=some eTup:=fnA 19 hn rfl
 have e22:(Gam K C n).fn[22]?=some ⟨"joined", zet⟩:=fnA 22 hn rfl
 show zaf (Gam K C n) XN za4 { nx:=fun _ G'=>Q .non G',rt:=Q } [some (.ref b),some (.tup (op.map dW)),some m.w,some (.tup (mk.map dW))] G
 simp only [za4]
 refine stp ?_
 (try dsimp only [semS,semE,semT,sem,mkE,mkB,blE,truE,semA,semO,semG,zab,semI,semC,conW,intR,blR,negR,gZ,gS,tZ,tS])
 refine attE hb ?_
 ((try dsimp only [semS,semE,semT,sem,mkE,mkB,blE,truE,semA,semO,semG,zab,semI,semC,conW,intR,blR,negR,gZ,gS,tZ,tS]);try simp only [cmpR,zah])
 by_cases he:x.e = "last"
 .rw [if_pos (by rw [he,beq_self_eq_true])]
  refine stp ?_
  (try dsimp only [semS,semE,semT,sem,mkE,mkB,blE,truE,semA,semO,semG,zab,semI,semC,conW,intR,blR,negR,gZ,gS,tZ,tS])
  have:=h G Keep.refl
  rw [zc8,if_pos he] at this
  exact this
 .rw [if_neg (by simpa using he)]
  refine stk K C n ?_
  refine stp ?_
  (try dsimp only [semS,semE,semT,sem,mkE,mkB,blE,truE,semA,semO,semG,zab,semI,semC,conW,intR,blR,negR,gZ,gS,tZ,tS])
  refine attA hb ?_
  ((try dsimp only [semS,semE,semT,sem,mkE,mkB,blE,truE,semA,semO,semG,zab,semI,semC,conW,intR,blR,negR,gZ,gS,tZ,tS]);try simp only [cmpR,zah])
  by_cases ha:x.a = "last"
  .rw [if_pos (by rw [ha,beq_self_eq_true])]
   refine stp ?_
   ((try dsimp only [semS,semE,semT,sem,mkE,mkB,blE,truE,semA,semO,semG,zab,semI,semC,conW,intR,blR,negR,gZ,gS,tZ,tS]);try simp only [truW])
   have:=h G Keep.refl
   rw [zc8,if_neg he,if_pos ha] at this
   cases mk with
   |nil=>exact this
   |cons d l=>exact this
  .rw [if_neg (by simpa using ha)]
   refine stk K C n ?_
   have fin:∀ (G':Hw) (zs:List (Str×Sy)),Keep [] G G'->zhH x op m=zs.map dW->zs.Sublist op->zaf (Gam K C n) XN (tl (tl (tl za4))) { nx:=fun _ G'=>Q .non G',rt:=Q } [some (.ref b),some (.tup (zs.map dW)),some m.w,some (.tup (mk.map dW))] G':=by
    intro G' zs kp ez sb
    simp only [za4,tl]
    refine stp ?_
    ((try dsimp only [semS,semE,semT,sem,mkE,mkB,blE,truE,semA,semO,semG,zab,semI,semC,conW,intR,blR,negR,gZ,gS,tZ,tS]);try simp only [e22])
    obtain ⟨j1,j2,j3,j4⟩:=zmu (sb.nodup hop.2.1) mk1 (Nat.le_trans sb.length_le hop.1) (fun d hd=>by have:=(hop.2.2 d (sb.subset hd)).2;omega) mk2
    refine ⟨_,_,rfl,j1,j2,j3,j4,fun G2 k2=>?_⟩
    have:=h G2 (kp.trans k2)
    rw [zc8,if_neg he,if_neg ha,ez] at this
    exact this
   simp only [za4,tl] at fin
   refine stp ?_
   cases m with
   |ans y t s =>
    simp only [Mv.w]
    ((try dsimp only [semS,semE,semT,sem,mkE,mkB,blE,truE,semA,semO,semG,zab,semI,semC,conW,intR,blR,negR,gZ,gS,tZ,tS]);try simp only [ix0,cmpR,zah,beq_self_eq_true,if_true])
    refine attB hb ?_
    ((try dsimp only [semS,semE,semT,sem,mkE,mkB,blE,truE,semA,semO,semG,zab,semI,semC,conW,intR,blR,negR,gZ,gS,tZ,tS]);try simp only [cmpR,zah])
    by_cases hb':x.b = "once"
    .rw [if_pos (by rw [hb',beq_self_eq_true])]
     refine stp ?_
     ((try dsimp only [semS,semE,semT,sem,mkE,mkB,blE,truE,semA,semO,semG,zab,semI,semC,conW,intR,blR,negR,gZ,gS,tZ,tS]);try simp only [e19,semI,semC,zbc])
     refine zcb (fun w=>if eqW w (dW (y,t))=true then none else some w) trivial (by rw [List.length_map];exact sz _ (by have:=hop.1;omega)) ?_ ?_
     .intro w hw K' hK
      obtain ⟨d,hd,rfl⟩:=List.mem_map.mp hw
      simp only [capS,List.length_cons,List.length_nil,List.replicate,List.map_cons,List.map_nil,List.cons_append,List.nil_append,List.append_nil]
      have dd:=zeT d
      have hd2:=(hop.2.2 d hd).2
      ((try dsimp only [semS,semE,semT,sem,mkE,mkB,blE,truE,semA,semO,semG,zab,semI,semC,conW,intR,blR,negR,gZ,gS,tZ,tS]);try simp only [Option.join_some,if_true,ix1,cmpR])
      have eq:=zoF (G:=G) (a:=dW d) (b:=dW (y,t)) ⟨_,rfl⟩ (zct d) (zct _) (by omega)
      have eq:eqG G (dW d) (.tup [.str y,t.w])=some (eqW (dW d) (dW (y,t))):=eq
      rw [eq]
      revert hK
      cases eqW (dW d) (dW (y,t)) <;> simp
     .intro p hp
      rw [zc1 (fun w=>eqW w (dW (y,t)))]
      have sq:za8 (put G p (.lst ((op.map dW).filter fun w=>!(eqW w (dW (y,t)))))) (.ref p)=some ((op.map dW).filter fun w=>!(eqW w (dW (y,t)))):=zac zad
      simp only [tupS,sq]
      obtain ⟨zs,ez,sb⟩:=zdZ x op (.ans y t s)
      have ez':(op.map dW).filter (fun w=>!(eqW w (dW (y,t))))=zs.map dW:=by rw [← ez,zdw hb']
      refine stk K C n ?_
      rw [ez']
      exact fin _ zs (Keep.new hp) ez sb
    .rw [if_neg (by simpa using hb')]
     refine stk K C n ?_
     exact fin G op Keep.refl (zhG hb') (List.Sublist.refl _)
   |dbt y t =>
    simp only [Mv.w]
    ((try dsimp only [semS,semE,semT,sem,mkE,mkB,blE,truE,semA,semO,semG,zab,semI,semC,conW,intR,blR,negR,gZ,gS,tZ,tS]);try simp only [ix0,cmpR,zah,zat,zzB,if_false])
    refine stk K C n ?_
    exact fin G op Keep.refl rfl (List.Sublist.refl _)
theorem zlm {n:Nat} (hn:30<=n) {ws:List W} {G:Hw} {Q:Q3} (h:zib C ws G Q XN):zaf (Gam K C n) XN zbN { nx:=fun _ G'=>Q .non G',rt:=Q } (zap zcw ws) G:=by
 obtain ⟨b,x,us,m,rfl,hb,hus,ok,h⟩:=h
 have e22:(Gam K C n).fn[22]?=some ⟨"joined", zet⟩:=fnA 22 hn rfl
 have z0:=sz 0 (by decide)
 have z1:=sz 1 (by decide)
 show zaf (Gam K C n) XN zbN { nx:=fun _ G'=>Q .non G',rt:=Q } [some (.ref b),some (.tup (us.map dW)),some m.w] G
 simp only [zbN]
 refine stp ?_
 (try dsimp only [semS,semE,semT,sem,mkE,mkB,blE,truE,semA,semO,semG,zab,semI,semC,conW,intR,blR,negR,gZ,gS,tZ,tS])
 refine attC hb ?_
 ((try dsimp only [semS,semE,semT,sem,mkE,mkB,blE,truE,semA,semO,semG,zab,semI,semC,conW,intR,blR,negR,gZ,gS,tZ,tS]);try simp only [cmpR,zah])
 by_cases hc:x.c = "once"
 .rw [if_neg (by simp [hc])]
  refine stk K C n ?_
  refine stp ?_
  cases m with
  |ans y t s =>
   simp only [Mv.w]
   ((try dsimp only [semS,semE,semT,sem,mkE,mkB,blE,truE,semA,semO,semG,zab,semI,semC,conW,intR,blR,negR,gZ,gS,tZ,tS]);try simp only [ix0,cmpR,zah,zaJ,zzB,if_false])
   have:=h G Keep.refl
   rw [ze0 hc] at this
   exact this
  |dbt y t =>
   simp only [Mv.w]
   ((try dsimp only [semS,semE,semT,sem,mkE,mkB,blE,truE,semA,semO,semG,zab,semI,semC,conW,intR,blR,negR,gZ,gS,tZ,tS]);try simp only [ix0,cmpR,zah,beq_self_eq_true,if_true,slR,e22])
   rw [cut3]
   ((try dsimp only [semS,semE,semT,sem,mkE,mkB,blE,truE,semA,semO,semG,zab,semI,semC,conW,intR,blR,negR,gZ,gS,tZ,tS]);try simp only [zzC,zzL,zzA,Nat.reduceAdd,z1,true_and])
   obtain ⟨j1,j2,j3,j4⟩:=zmu (bs:=[(y,t)]) hus.2.1 (Nat.le_refl _) hus.1 (fun d hd=>by have:=(hus.2.2 d hd).2;omega) (fun d hd=>by rw [List.mem_singleton.mp hd];exact ok.2)
   refine ⟨_,_,rfl,j1,j2,j3,j4,fun G2 k2=>?_⟩
   have:=h G2 k2
   rw [zeZ hc] at this
   exact this
 .rw [if_pos (by simpa using hc)]
  refine stp ?_
  ((try dsimp only [semS,semE,semT,sem,mkE,mkB,blE,truE,semA,semO,semG,zab,semI,semC,conW,intR,blR,negR,gZ,gS,tZ,tS]);try simp only [List.length_nil,z0,true_and])
  have:=h G Keep.refl
  rw [zhf hc] at this
  exact this
theorem zli {n:Nat} (hn:31<=n) {ws:List W} {G:Hw} {Q:Q3} (h:zb3 C ws G Q XN):zaf (Gam K C n) XN ziQ { nx:=fun _ G'=>Q .non G',rt:=Q } (zap zkm ws) G:=by
 obtain ⟨b,x,z,m,r,rfl,hb,hx,hz,hu,ok,rk,h⟩:=h
 have e17:(Gam K C n).fn[17]?=some ⟨"made_by", zig⟩:=fnA 17 hn rfl
 have e22:(Gam K C n).fn[22]?=some ⟨"joined", zet⟩:=fnA 22 hn rfl
 have e28:(Gam K C n).fn[28]?=some ⟨"heard_by", zfa⟩:=fnA 28 hn rfl
 have e29:(Gam K C n).fn[29]?=some ⟨"open_after", zie C⟩:=fnA 29 hn rfl
 have e30:(Gam K C n).fn[30]?=some ⟨"used_after", zib C⟩:=fnA 30 hn rfl
 have z0:=sz 0 (by decide)
 have z4:=sz 4 (by decide)
 obtain ⟨hh1,hh2⟩:=zcH ok rk
 obtain ⟨hm1,hm2⟩:=zde ok rk
 show zaf (Gam K C n) XN ziQ { nx:=fun _ G'=>Q .non G',rt:=Q } [some (.ref b),some z.w,some m.w,some r.w,none,none,none,none,none] G
 simp only [ziQ]
 refine stp ?_
 ((try dsimp only [semS,semE,semT,sem,mkE,mkB,blE,truE,semA,semO,semG,zab,semI,semC,conW,intR,blR,negR,gZ,gS,tZ,tS]);try simp only [Sd.w,slR,cutA])
 refine stp ?_
 ((try dsimp only [semS,semE,semT,sem,mkE,mkB,blE,truE,semA,semO,semG,zab,semI,semC,conW,intR,blR,negR,gZ,gS,tZ,tS]);try simp only [e17])
 refine ⟨m,r,rfl,ok,rk,?_⟩
 refine stp ?_
 ((try dsimp only [semS,semE,semT,sem,mkE,mkB,blE,truE,semA,semO,semG,zab,semI,semC,conW,intR,blR,negR,gZ,gS,tZ,tS]);try simp only [e28])
 refine ⟨m,r,rfl,ok,rk,?_⟩
 refine stp ?_
 ((try dsimp only [semS,semE,semT,sem,mkE,mkB,blE,truE,semA,semO,semG,zab,semI,semC,conW,intR,blR,negR,gZ,gS,tZ,tS]);try simp only [e22,e29,e30])
 obtain ⟨j1,j2,j3,j4⟩:=zqy hz.sd.2.1 hh1 (by have:=hz.sd.1;omega) (fun s hs=>by have:=hz.sd.2.2 s hs;omega) hh2
 refine ⟨_,_,rfl,j1,j2,j3,j4,fun G2 k2=>?_⟩
 refine ⟨b,x,z.op,m,made m r,rfl,k2 _ _ (by simp) hb,hz.op,ok,hm1,hm2,fun G3 k3=>?_⟩
 refine ⟨b,x,z.us,m,rfl,k3 _ _ (by simp) (k2 _ _ (by simp) hb),hz.us,ok,fun G4 k4=>?_⟩
 refine attE (k4 _ _ (by simp) (k3 _ _ (by simp) (k2 _ _ (by simp) hb))) ?_
 have:=h G4 ((k2.trans k3).trans k4)
 rw [resW] at this
 ((try dsimp only [semS,semE,semT,sem,mkE,mkB,blE,truE,semA,semO,semG,zab,semI,semC,conW,intR,blR,negR,gZ,gS,tZ,tS]);try simp only [cmpR,zah])
 by_cases he:x.e = "last"
 .rw [if_pos he] at this
  rw [if_pos (by rw [he,beq_self_eq_true])]
  ((try dsimp only [semS,semE,semT,sem,mkE,mkB,blE,truE,semA,semO,semG,zab,semI,semC,conW,intR,blR,negR,gZ,gS,tZ,tS]);try simp only [zzC,zzL,zzA,Nat.reduceAdd,z4,true_and])
  exact this
 .rw [if_neg he] at this
  rw [if_neg (by simpa using he)]
  ((try dsimp only [semS,semE,semT,sem,mkE,mkB,blE,truE,semA,semO,semG,zab,semI,semC,conW,intR,blR,negR,gZ,gS,tZ,tS]);try simp only [zzC,zzL,zzA,Nat.reduceAdd,z0,z4,true_and])
  exact this
end
end K23
set_option Elab.async false
set_option linter.all false
set_option maxRecDepth 100000
set_option maxHeartbeats 8000000
namespace K23
open PySem PySem.Spec PyProof.Rows L2 L3
theorem zgU {d:W}:∀ {l:List W},sts l=true->l.Nodup->(l.any fun w=>eqW w d)=true->l.eraseIdx (l.findIdx fun w=>eqW w d)=l.filter fun w=>!(eqW w d)
 | [],_,_,h=>by cases h
 |a::l,hs,nd,h=>by
  have hs':=zaD.mp hs
  have nd':=List.nodup_cons.mp nd
  rw [List.findIdx_cons,List.filter_cons]
  cases e:eqW a d with
  |true =>
   have ea:=zjM a d hs'.1 e
   simp only [cond_true,Bool.not_true,zzB,if_false,List.eraseIdx_cons_zero]
   refine (List.filter_eq_self.mpr fun w hw=>?_).symm
   cases q:eqW w d with
   |false=>rfl
   |true =>
    rw [← ea] at q
    rw [zjM w a (zas hs'.2 hw) q] at hw
    exact absurd hw nd'.1
  |false =>
   simp only [cond_false,Bool.not_false,if_true,List.eraseIdx_cons_succ]
   rw [zgU hs'.2 nd'.2 (by simpa [e] using h)]
theorem zmK {a b:W} (ha:L3.st a=true) (hb:L3.st b=true):eqW a b=eqW b a:=by
 by_cases e:a=b
 .rw [e]
 .rw [znH ha e,znH hb (Ne.symm e)]
theorem zhL {d:W} {l:List W} (h:(l.any fun w=>eqW w d)=false):(l.filter fun w=>!(eqW w d))=l:=List.filter_eq_self.mpr fun w hw=>by
 cases q:eqW w d with
 |false=>rfl
 |true =>
  have:(l.any fun w=>eqW w d)=true:=List.any_eq_true.mpr ⟨w,hw,q⟩
  rw [h] at this
  cases this
def zef (x:Bk) (op:List (Str×Sy)) (m:Mv) (mk:List (Str×Sy)):List W:=if x.e = "last" then [] else if x.a = "last" then (if mk.isEmpty=true then op.map dW else []) else zhH x op m
theorem zj5 (x:Bk) (op:List (Str×Sy)) (m:Mv) (mk:List (Str×Sy)):∃ zs:List (Str×Sy),zef x op m mk=zs.map dW/\zs.Sublist op:=by
 unfold zef
 split
 .exact ⟨[],rfl,List.nil_sublist _⟩
 .split
  .split
   .exact ⟨op,rfl,List.Sublist.refl _⟩
   .exact ⟨[],rfl,List.nil_sublist _⟩
  .exact zdZ x op m
theorem zfP {mk:List (Str×Sy)} (h:mk.length<=1):uni [] (mk.map dW)=mk.map dW:=by
 match mk,h with
 | [],_=>rfl
 | [d],_=>rfl
theorem zj4 {x:Bk} {op:List (Str×Sy)} {m:Mv} {mk:List (Str×Sy)} (h:mk.length<=1) (hs:zaR (op.map dW)):uni (zef x op m mk) (mk.map dW)=zc8 x op m mk:=by
 unfold zef zc8
 split
 .exact zfP h
 .split
  .cases mk with
   |nil =>
    simp only [List.isEmpty_nil,if_true,List.map_nil]
    exact znz (zh7 op) (fun a ha b hb=>by
     obtain ⟨d,_,rfl⟩:=List.mem_map.mp ha
     obtain ⟨e,_,rfl⟩:=List.mem_map.mp hb
     exact zoY d e) hs
   |cons d l =>
    simp only [List.isEmpty_cons,zzB,if_false]
    exact zfP h
  .rfl
theorem zjD (a b:List W):srt ((a.filterMap fun w=>if (b.any fun z=>eqW z w)=true then none else some w)++b)=uni a b:=by rw [zc1 (fun w=>b.any fun z=>eqW z w)];rfl
theorem ze5 {a b:List W} (h:Srtb (a++b)):Srtb ((a.filterMap fun w=>if (b.any fun z=>eqW z w)=true then none else some w)++b):=by
 rw [zc1 (fun w=>b.any fun z=>eqW z w)]
 refine zh9 h (fun y hy=>?_) (by rw [List.length_append,List.length_append];have:=List.length_filter_le (fun w=>!(b.any fun z=>eqW z w)) a;omega)
 rcases List.mem_append.mp hy with hy | hy
 .exact List.mem_append.mpr (.inl (List.mem_filter.mp hy).1)
 .exact List.mem_append.mpr (.inr hy)
theorem zgF {a b:List W} (h:Srtb (a++b)) {w:W} (hw:w∈a):pur w=true/\purs b=true/\min (deps b) (dep w)<=150:=by
 have p:=h.pure
 refine ⟨L3.purs_mem p w (List.mem_append.mpr (.inl hw)),zbI fun v hv=>L3.purs_mem p v (List.mem_append.mpr (.inr hv)),?_⟩
 have:=zc2 (List.mem_append.mpr (.inl hw):w∈a++b)
 have:=h.deep
 omega
section
variable {K : Frg} {C : Addr}
theorem zji {n:Nat} (hn:33<=n) {ws:List W} {G:Hw} {Q:Q3} (h:zb3 C ws G Q XN):zaf (Gam K C n) XN zag { nx:=fun _ G'=>Q .non G',rt:=Q } (zap zcE ws) G:=by
 obtain ⟨b,x,z,m,r,rfl,hb,hx,hz,hu,ok,rk,h⟩:=h
 have e3:(Gam K C n).fn[3]?=some eLst:=fnA 3 hn rfl
 have e5:(Gam K C n).fn[5]?=some eSrt:=fnA 5 hn rfl
 have e6:(Gam K C n).fn[6]?=some eInt:=fnA 6 hn rfl
 have e19:(Gam K C n).fn[19]?=some eTup:=fnA 19 hn rfl
 have e26:(Gam K C n).fn[26]?=some ⟨"_law_says", zb2⟩:=fnA 26 hn rfl
 have m3:(Gam K C n).mt[3]?=some eRem:=rfl
 have z0:=sz 0 (by decide)
 have z1:=sz 1 (by decide)
 have z2:=sz 2 (by decide)
 have z4:=sz 4 (by decide)
 obtain ⟨hh1,hh2⟩:=zcH ok rk
 obtain ⟨hm1,hm2⟩:=zde ok rk
 obtain ⟨zs,ez,sb⟩:=zj5 x z.op m (made m r)
 obtain ⟨i1,i2,i3,i4⟩:=zqy hz.sd.2.1 hh1 (by have:=hz.sd.1;omega) (fun s hs=>by have:=hz.sd.2.2 s hs;omega) hh2
 obtain ⟨j1,j2,j3,j4⟩:=zmu (sb.nodup hz.op.2.1) hm1 (Nat.le_trans sb.length_le hz.op.1) (fun d hd=>by have:=(hz.op.2.2 d (sb.subset hd)).2;omega) hm2
 have hsl:=hz.sd.1
 have hzl:=Nat.le_trans sb.length_le hz.op.1
 have s10:∀ (G':Hw) (p8 p9 p10:Addr) (v7:W),Keep [] G G'->G' p8=some (.lst ((heard m r).map Sy.w))->G' p9=some (.lst ((made m r).map dW))->G' p10=some (.lst (zs.map dW))->v7=.tup (if x.e = "last" then (heard m r).map Sy.w else []) ->
   zaf (Gam K C n) XN (tl (tl (tl (tl (tl (tl (tl (tl (tl zag))))))))) { nx:=fun _ G'=>Q .non G',rt:=Q } [some (.ref b),some z.w,some m.w,some r.w,some (.tup (z.sd.map Sy.w)),some (.tup (z.op.map dW)),some (.tup (zeb x z.us m)),some v7,some (.ref p8),some (.ref p9),some (.ref p10)] G':=by
  intro G' p8 p9 p10 v7 kp g8 g9 g10 e7
  simp only [zag,tl]
  refine stp ?_
  ((try dsimp only [semS,semE,semT,sem,mkE,mkB,blE,truE,semA,semO,semG,zab,semI,semC,conW,intR,blR,negR,gZ,gS,tZ,tS]);try simp only [e5,e19,semI,semC,zbc])
  refine zcb (fun w=>if (((heard m r).map Sy.w).any fun z=>eqW z w)=true then none else some w) trivial (by rw [List.length_map];exact sz _ (by omega)) ?_ ?_
  .intro w hw K' hK
   simp only [capS,List.length_cons,List.length_nil,List.replicate,List.map_cons,List.map_nil,List.cons_append,List.nil_append,List.append_nil]
   ((try dsimp only [semS,semE,semT,sem,mkE,mkB,blE,truE,semA,semO,semG,zab,semI,semC,conW,intR,blR,negR,gZ,gS,tZ,tS]);try simp only [cmpR,memR,L3.inR,Option.join_some,if_true,g8])
   refine ⟨zgF i1 hw,?_⟩
   revert hK
   cases ((heard m r).map Sy.w).any fun z=>eqW z w <;> simp
  .intro q hq
   have n8:=zba g8 hq
   simp only [binR,zau n8,g8,zad]
   refine ⟨sz _ (by rw [List.length_map];have:=List.length_filterMap_le (fun w=>if (((heard m r).map Sy.w).any fun z=>eqW z w)=true then none else some w) (z.sd.map Sy.w);rw [List.length_map] at this;omega),fun q2 hq2=>?_⟩
   refine ⟨_,zac zad,ze5 i1,fun q3 hq3=>?_⟩
   rw [zjD]
   have k2:Keep [] G' (put (put (put G' q (.lst ((z.sd.map Sy.w).filterMap fun w=>if (((heard m r).map Sy.w).any fun z=>eqW z w)=true then none else some w))) q2 (.lst (((z.sd.map Sy.w).filterMap fun w=>if (((heard m r).map Sy.w).any fun z=>eqW z w)=true then none else some w)++(heard m r).map Sy.w))) q3 (.lst (uni (z.sd.map Sy.w) ((heard m r).map Sy.w)))):=((Keep.new hq).trans (Keep.new hq2)).trans (Keep.new hq3)
   have g3:(put (put (put G' q (.lst ((z.sd.map Sy.w).filterMap fun w=>if (((heard m r).map Sy.w).any fun z=>eqW z w)=true then none else some w))) q2 (.lst (((z.sd.map Sy.w).filterMap fun w=>if (((heard m r).map Sy.w).any fun z=>eqW z w)=true then none else some w)++(heard m r).map Sy.w))) q3 (.lst (uni (z.sd.map Sy.w) ((heard m r).map Sy.w)))) q3=some (.lst (uni (z.sd.map Sy.w) ((heard m r).map Sy.w))):=zad
   generalize put (put (put G' q (.lst ((z.sd.map Sy.w).filterMap fun w=>if (((heard m r).map Sy.w).any fun z=>eqW z w)=true then none else some w))) q2 (.lst (((z.sd.map Sy.w).filterMap fun w=>if (((heard m r).map Sy.w).any fun z=>eqW z w)=true then none else some w)++(heard m r).map Sy.w))) q3 (.lst (uni (z.sd.map Sy.w) ((heard m r).map Sy.w)))=G2 at k2 g3 ⊢
   have sq:za8 G2 (.ref q3)=some (uni (z.sd.map Sy.w) ((heard m r).map Sy.w)):=zac g3
   simp only [tupS,sq]
   have g9:=k2 _ _ (by simp) g9
   have g10:=k2 _ _ (by simp) g10
   have kp:=kp.trans k2
   refine stp ?_
   ((try dsimp only [semS,semE,semT,sem,mkE,mkB,blE,truE,semA,semO,semG,zab,semI,semC,conW,intR,blR,negR,gZ,gS,tZ,tS]);try simp only [e5,e19,semI,semC,zbc,zac g10])
   refine zcb (fun w=>if (((made m r).map dW).any fun z=>eqW z w)=true then none else some w) (zac g10) (by rw [List.length_map];exact sz _ (by omega)) ?_ ?_
   .intro w hw K' hK
    simp only [capS,List.length_cons,List.length_nil,List.replicate,List.map_cons,List.map_nil,List.cons_append,List.nil_append,List.append_nil]
    ((try dsimp only [semS,semE,semT,sem,mkE,mkB,blE,truE,semA,semO,semG,zab,semI,semC,conW,intR,blR,negR,gZ,gS,tZ,tS]);try simp only [cmpR,memR,L3.inR,Option.join_some,if_true,g9])
    refine ⟨zgF j1 hw,?_⟩
    revert hK
    cases ((made m r).map dW).any fun z=>eqW z w <;> simp
   .intro q hq
    have n9:=zba g9 hq
    simp only [binR,zau n9,g9,zad]
    refine ⟨sz _ (by rw [List.length_map];have:=List.length_filterMap_le (fun w=>if (((made m r).map dW).any fun z=>eqW z w)=true then none else some w) (zs.map dW);rw [List.length_map] at this;omega),fun q2 hq2=>?_⟩
    refine ⟨_,zac zad,ze5 j1,fun q3 hq3=>?_⟩
    rw [zjD,← ez,zj4 hm1 hz.s2]
    have k3:=(((Keep.new hq).trans (Keep.new hq2)).trans (Keep.new hq3):Keep [] G2 (put (put (put G2 q (.lst ((zs.map dW).filterMap fun w=>if (((made m r).map dW).any fun z=>eqW z w)=true then none else some w))) q2 (.lst (((zs.map dW).filterMap fun w=>if (((made m r).map dW).any fun z=>eqW z w)=true then none else some w)++(made m r).map dW))) q3 (.lst (zc8 x z.op m (made m r)))))
    rw [← ez] at k3
    have sq:za8 (put (put (put G2 q (.lst ((zef x z.op m (made m r)).filterMap fun w=>if (((made m r).map dW).any fun z=>eqW z w)=true then none else some w))) q2 (.lst (((zef x z.op m (made m r)).filterMap fun w=>if (((made m r).map dW).any fun z=>eqW z w)=true then none else some w)++(made m r).map dW))) q3 (.lst (zc8 x z.op m (made m r)))) (.ref q3)=some (zc8 x z.op m (made m r)):=zac zad
    simp only [tupS,sq,zzC,zzL,zzA,Nat.reduceAdd,z4,true_and]
    rw [e7]
    exact h _ (kp.trans k3)
 simp only [zag,tl] at s10
 have s9:∀ (G':Hw) (p8 p9 p10:Addr),Keep [] G G'->G' p8=some (.lst ((heard m r).map Sy.w))->G' p9=some (.lst ((made m r).map dW))->G' p10=some (.lst (zs.map dW)) ->
   zaf (Gam K C n) XN (tl (tl (tl (tl (tl (tl (tl (tl zag)))))))) { nx:=fun _ G'=>Q .non G',rt:=Q } [some (.ref b),some z.w,some m.w,some r.w,some (.tup (z.sd.map Sy.w)),some (.tup (z.op.map dW)),some (.tup (zeb x z.us m)),some (.tup (z.fr.map Sy.w)),some (.ref p8),some (.ref p9),some (.ref p10)] G':=by
  intro G' p8 p9 p10 kp g8 g9 g10
  simp only [zag,tl]
  refine stp ?_
  ((try dsimp only [semS,semE,semT,sem,mkE,mkB,blE,truE,semA,semO,semG,zab,semI,semC,conW,intR,blR,negR,gZ,gS,tZ,tS]);try simp only [e19,e6])
  refine attE (kp _ _ (by simp) hb) ?_
  ((try dsimp only [semS,semE,semT,sem,mkE,mkB,blE,truE,semA,semO,semG,zab,semI,semC,conW,intR,blR,negR,gZ,gS,tZ,tS]);try simp only [cmpR,zah,intS])
  have fin:∀ (l:List W) (q:Addr),G' q=none->l=(if x.e = "last" then (heard m r).map Sy.w else [])->tupS [.ref q] (put G' q (.lst l)) fun w G1=>zaf (Gam K C n) XN (tl (tl (tl (tl (tl (tl (tl (tl (tl zag))))))))) { nx:=fun _ G'=>Q .non G',rt:=Q } [some (.ref b),some z.w,some m.w,some r.w,some (.tup (z.sd.map Sy.w)),some (.tup (z.op.map dW)),some (.tup (zeb x z.us m)),some w,some (.ref p8),some (.ref p9),some (.ref p10)] G1:=by
   intro l q hq el
   have sq:za8 (put G' q (.lst l)) (.ref q)=some l:=zac zad
   simp only [tupS,sq,zag,tl]
   exact s10 _ p8 p9 p10 _ (kp.trans (Keep.new hq)) (by rw [zau (zba g8 hq)];exact g8) (by rw [zau (zba g9 hq)];exact g9) (by rw [zau (zba g10 hq)];exact g10) (by rw [el])
  simp only [zag,tl] at fin
  by_cases he:x.e = "last"
  .rw [he,beq_self_eq_true]
   simp only [if_true,binR,g8]
   refine ⟨⟨by decide,by decide,by rw [List.length_map];exact sz _ (by rw [show (1:Int).toNat=1 from rfl];omega)⟩,fun q hq=>?_⟩
   have e1:(List.replicate (1:Int).toNat ((heard m r).map Sy.w)).flatten=(heard m r).map Sy.w:=by rw [show (1:Int).toNat=1 from rfl];simp
   rw [e1]
   exact fin _ q hq (by rw [if_pos he])
  .have hne:(x.e == "last")=false:=by simpa using he
   rw [hne]
   simp only [zzB,if_false,binR,g8]
   refine ⟨⟨by decide,by decide,by rw [show (0:Int).toNat=0 from rfl];exact sz _ (by omega)⟩,fun q hq=>?_⟩
   exact fin [] q hq (by rw [if_neg he])
 simp only [zag,tl] at s9
 have s8:∀ (G':Hw) (p8 p9 p10:Addr),Keep [] G G'->G' p8=some (.lst ((heard m r).map Sy.w))->G' p9=some (.lst ((made m r).map dW))->G' p10=some (.lst (zs.map dW)) ->
   zaf (Gam K C n) XN (tl (tl (tl (tl (tl (tl (tl zag))))))) { nx:=fun _ G'=>Q .non G',rt:=Q } [some (.ref b),some z.w,some m.w,some r.w,some (.tup (z.sd.map Sy.w)),some (.tup (z.op.map dW)),some (.tup (z.us.map dW)),some (.tup (z.fr.map Sy.w)),some (.ref p8),some (.ref p9),some (.ref p10)] G':=by
  intro G' p8 p9 p10 kp g8 g9 g10
  simp only [zag,tl]
  refine stp ?_
  (try dsimp only [semS,semE,semT,sem,mkE,mkB,blE,truE,semA,semO,semG,zab,semI,semC,conW,intR,blR,negR,gZ,gS,tZ,tS])
  refine attC (kp _ _ (by simp) hb) ?_
  ((try dsimp only [semS,semE,semT,sem,mkE,mkB,blE,truE,semA,semO,semG,zab,semI,semC,conW,intR,blR,negR,gZ,gS,tZ,tS]);try simp only [cmpR,zah])
  by_cases hc:x.c = "once"
  .rw [if_pos (by rw [hc,beq_self_eq_true])]
   cases m with
   |ans y t s =>
    simp only [Mv.w,ix0,zah,zaJ,zzB,if_false]
    refine stk K C n ?_
    have:=s9 G' p8 p9 p10 kp g8 g9 g10
    rw [ze0 hc] at this
    exact this
   |dbt y t =>
    simp only [Mv.w,ix0,zah,beq_self_eq_true,if_true]
    refine stp ?_
    ((try dsimp only [semS,semE,semT,sem,mkE,mkB,blE,truE,semA,semO,semG,zab,semI,semC,conW,intR,blR,negR,gZ,gS,tZ,tS]);try simp only [e5,e19,semI,semC,zbc])
    obtain ⟨u1,u2,u3,u4⟩:=zmu (bs:=[(y,t)]) hz.us.2.1 (Nat.le_refl _) hz.us.1 (fun d hd=>by have:=(hz.us.2.2 d hd).2;omega) (fun d hd=>by rw [List.mem_singleton.mp hd];exact ok.2)
    have hul:=hz.us.1
    refine zcb (fun w=>if (([dW (y,t)]).any fun z=>eqW z w)=true then none else some w) trivial (by rw [List.length_map];exact sz _ (by omega)) ?_ ?_
    .intro w hw K' hK
     obtain ⟨d,hd,rfl⟩:=List.mem_map.mp hw
     simp only [capS,List.length_cons,List.length_nil,List.replicate,List.map_cons,List.map_nil,List.cons_append,List.nil_append,List.append_nil]
     ((try dsimp only [semS,semE,semT,sem,mkE,mkB,blE,truE,semA,semO,semG,zab,semI,semC,conW,intR,blR,negR,gZ,gS,tZ,tS]);try simp only [Option.join_some,if_true,cmpR,slR])
     rw [cut3]
     have dd:=zeT d
     have hd2:=(hz.us.2.2 d hd).2
     have eq:eqG G' (dW d) (.tup [.str y,t.w])=some (eqW (dW d) (dW (y,t))):=zoF ⟨_,rfl⟩ (zct d) (zct (y,t)) (by omega)
     have ec:(([dW (y,t)]).any fun z=>eqW z (dW d))=eqW (dW d) (dW (y,t)):=by rw [List.any_cons,List.any_nil,Bool.or_false];exact zmK (zmS _) (zmS _)
     rw [ec] at hK
     rw [eq]
     revert hK
     cases eqW (dW d) (dW (y,t)) <;> simp
    .intro q hq
     ((try dsimp only [semS,semE,semT,sem,mkE,mkB,blE,truE,semA,semO,semG,zab,semI,semC,conW,intR,blR,negR,gZ,gS,tZ,tS]);try simp only [slR])
     rw [cut3]
     ((try dsimp only [semS,semE,semT,sem,mkE,mkB,blE,truE,semA,semO,semG,zab,semI,semC,conW,intR,blR,negR,gZ,gS,tZ,tS]);try simp only [zzC,zzL,zzA,Nat.reduceAdd,z1,true_and])
     intro q2 hq2
     have nq:q≠q2:=by rintro rfl;rw [zad] at hq2;cases hq2
     simp only [binR,zau nq,zad]
     refine ⟨sz _ (by have:=List.length_filterMap_le (fun w=>if (([dW (y,t)]).any fun z=>eqW z w)=true then none else some w) (z.us.map dW);rw [List.length_map] at this;simp only [List.length_cons,List.length_nil];omega),fun q3 hq3=>?_⟩
     refine ⟨_,zac zad,ze5 (b:=[dW (y,t)]) u1,fun q4 hq4=>?_⟩
     have ef:=zjD (z.us.map dW) [dW (y,t)]
     have k2:=((((Keep.new hq).trans (Keep.new hq2)).trans (Keep.new hq3)).trans (Keep.new hq4):Keep [] G' (put (put (put (put G' q (.lst ((z.us.map dW).filterMap fun w=>if (([dW (y,t)]).any fun z=>eqW z w)=true then none else some w))) q2 (.lst [.tup [.str y,t.w]])) q3 (.lst (((z.us.map dW).filterMap fun w=>if (([dW (y,t)]).any fun z=>eqW z w)=true then none else some w)++[.tup [.str y,t.w]]))) q4 (.lst (srt (((z.us.map dW).filterMap fun w=>if (([dW (y,t)]).any fun z=>eqW z w)=true then none else some w)++[.tup [.str y,t.w]])))))
     have sq:za8 (put (put (put (put G' q (.lst ((z.us.map dW).filterMap fun w=>if (([dW (y,t)]).any fun z=>eqW z w)=true then none else some w))) q2 (.lst [.tup [.str y,t.w]])) q3 (.lst (((z.us.map dW).filterMap fun w=>if (([dW (y,t)]).any fun z=>eqW z w)=true then none else some w)++[.tup [.str y,t.w]]))) q4 (.lst (srt (((z.us.map dW).filterMap fun w=>if (([dW (y,t)]).any fun z=>eqW z w)=true then none else some w)++[.tup [.str y,t.w]])))) (.ref q4)=some (uni (z.us.map dW) [dW (y,t)]):=zac (by rw [zad];exact congrArg (fun l=>some (O.lst l)) ef)
     simp only [tupS,sq]
     refine stk K C n ?_
     have:=s9 _ p8 p9 p10 (kp.trans k2) (k2 _ _ (by simp) g8) (k2 _ _ (by simp) g9) (k2 _ _ (by simp) g10)
     rw [zeZ hc] at this
     exact this
  .rw [if_neg (by simpa using hc)]
   have hof:x.c = "often" := hx.resolve_left hc
   have:=s9 G' p8 p9 p10 kp g8 g9 g10
   rw [zhf hc,← List.map_nil (f:=dW),← hu hof] at this
   refine stk K C n ?_
   exact this
 simp only [zag,tl] at s8
 have s7:∀ (G':Hw) (p8 p9 p10:Addr),Keep [] G G'->G' p8=some (.lst ((heard m r).map Sy.w))->G' p9=some (.lst ((made m r).map dW))->G' p10=some (.lst (zhH x z.op m)) ->
   zaf (Gam K C n) XN (tl (tl (tl (tl (tl (tl zag)))))) { nx:=fun _ G'=>Q .non G',rt:=Q } [some (.ref b),some z.w,some m.w,some r.w,some (.tup (z.sd.map Sy.w)),some (.tup (z.op.map dW)),some (.tup (z.us.map dW)),some (.tup (z.fr.map Sy.w)),some (.ref p8),some (.ref p9),some (.ref p10)] G':=by
  intro G' p8 p9 p10 kp g8 g9 g10
  simp only [zag,tl]
  have hb':=kp _ _ (by simp) hb
  have non:∀ G2:Hw,Keep [] G' G2->zs.map dW=[]->zaf (Gam K C n) XN (.cons (.asg 10 (.lst .nil)) .nil) { nx:=zaf (Gam K C n) XN (tl (tl (tl (tl (tl (tl (tl zag))))))) { nx:=fun _ G'=>Q .non G',rt:=Q },rt:=Q } [some (.ref b),some z.w,some m.w,some r.w,some (.tup (z.sd.map Sy.w)),some (.tup (z.op.map dW)),some (.tup (z.us.map dW)),some (.tup (z.fr.map Sy.w)),some (.ref p8),some (.ref p9),some (.ref p10)] G2:=by
   intro G2 k2 e0
   simp only [zag,tl]
   refine stp ?_
   ((try dsimp only [semS,semE,semT,sem,mkE,mkB,blE,truE,semA,semO,semG,zab,semI,semC,conW,intR,blR,negR,gZ,gS,tZ,tS]);try simp only [List.length_nil,z0,true_and])
   intro q hq
   refine stk K C n ?_
   have k3:=k2.trans (Keep.new (o:=.lst []) hq)
   exact s8 _ p8 p9 q (kp.trans k3) (k3 _ _ (by simp) g8) (k3 _ _ (by simp) g9) (by rw [zad,e0])
  simp only [zag,tl] at non
  refine stp ?_
  (try dsimp only [semS,semE,semT,sem,mkE,mkB,blE,truE,semA,semO,semG,zab,semI,semC,conW,intR,blR,negR,gZ,gS,tZ,tS])
  refine attE hb' ?_
  ((try dsimp only [semS,semE,semT,sem,mkE,mkB,blE,truE,semA,semO,semG,zab,semI,semC,conW,intR,blR,negR,gZ,gS,tZ,tS]);try simp only [cmpR,zah])
  by_cases he:x.e = "last"
  .rw [if_pos (by rw [he,beq_self_eq_true])]
   simp only [if_true]
   exact non G' Keep.refl (by rw [← ez,zef,if_pos he])
  .rw [if_neg (by simpa using he)]
   refine attA hb' ?_
   ((try dsimp only [semS,semE,semT,sem,mkE,mkB,blE,truE,semA,semO,semG,zab,semI,semC,conW,intR,blR,negR,gZ,gS,tZ,tS]);try simp only [cmpR,zah])
   by_cases ha:x.a = "last"
   .rw [if_pos (by rw [ha,beq_self_eq_true])]
    simp only [List.length_nil,z0,true_and]
    intro q hq
    have n9:put G' q (.lst []) p9=some (.lst ((made m r).map dW)):=by rw [zau (zba g9 hq)];exact g9
    have k2:Keep [] G' (put G' q (.lst [])):=Keep.new hq
    have q2:put G' q (.lst []) q=some (.lst []):=zad
    generalize put G' q (.lst [])=G2 at n9 k2 q2 ⊢
    have mp:purs ((made m r).map dW)=true:=zbI fun w hw=>by obtain ⟨d,_,rfl⟩:=List.mem_map.mp hw;exact zct d
    have eq:eqG G2 (.ref p9) (.ref q)=some (eqWs ((made m r).map dW) []):=by
     simp only [eqG,zac n9,zac q2,mp]
     rw [if_pos (by simp [purs,deps])]
    rw [eq]
    cases em:made m r with
    |nil =>
     simp only [List.map_nil,eqWs,Bool.not_true,zzB,if_false]
     refine stp ?_
     (try dsimp only [semS,semE,semT,sem,mkE,mkB,blE,truE,semA,semO,semG,zab,semI,semC,conW,intR,blR,negR,gZ,gS,tZ,tS])
     refine attA (k2 _ _ (by simp) hb') ?_
     ((try dsimp only [semS,semE,semT,sem,mkE,mkB,blE,truE,semA,semO,semG,zab,semI,semC,conW,intR,blR,negR,gZ,gS,tZ,tS]);try simp only [cmpR,zah])
     rw [if_pos (by rw [ha,beq_self_eq_true])]
     refine stp ?_
     ((try dsimp only [semS,semE,semT,sem,mkE,mkB,blE,truE,semA,semO,semG,zab,semI,semC,conW,intR,blR,negR,gZ,gS,tZ,tS]);try simp only [e3,lstS,za8])
     intro f hf
     refine stk K C n (stk K C n ?_)
     have k3:=k2.trans (Keep.new (o:=.lst (z.op.map dW)) hf)
     exact s8 _ p8 p9 f (kp.trans k3) (k3 _ _ (by simp) g8) (k3 _ _ (by simp) g9) (by rw [zad,← ez,zef,if_neg he,if_pos ha,em];rfl)
    |cons d l =>
     simp only [List.map_cons,eqWs,Bool.not_false,if_true]
     exact non G2 k2 (by rw [← ez,zef,if_neg he,if_pos ha,em];rfl)
   .rw [if_neg (by simpa using ha)]
    simp only [zzB,if_false]
    refine stp ?_
    (try dsimp only [semS,semE,semT,sem,mkE,mkB,blE,truE,semA,semO,semG,zab,semI,semC,conW,intR,blR,negR,gZ,gS,tZ,tS])
    refine attA hb' ?_
    ((try dsimp only [semS,semE,semT,sem,mkE,mkB,blE,truE,semA,semO,semG,zab,semI,semC,conW,intR,blR,negR,gZ,gS,tZ,tS]);try simp only [cmpR,zah])
    rw [if_neg (by simpa using ha)]
    refine stk K C n (stk K C n ?_)
    exact s8 _ p8 p9 p10 kp g8 g9 (by rw [g10,← ez,zef,if_neg he,if_neg ha])
 simp only [zag,tl] at s7
 have s6:∀ (G':Hw) (p8 p9 p10:Addr),Keep [] G G'->G p10=none->p8≠p10->p9≠p10->G' p8=some (.lst ((heard m r).map Sy.w))->G' p9=some (.lst ((made m r).map dW))->G' p10=some (.lst (z.op.map dW)) ->
   zaf (Gam K C n) XN (tl (tl (tl (tl (tl zag))))) { nx:=fun _ G'=>Q .non G',rt:=Q } [some (.ref b),some z.w,some m.w,some r.w,some (.tup (z.sd.map Sy.w)),some (.tup (z.op.map dW)),some (.tup (z.us.map dW)),some (.tup (z.fr.map Sy.w)),some (.ref p8),some (.ref p9),some (.ref p10)] G':=by
  intro G' p8 p9 p10 kp h10 n8 n9 g8 g9 g10
  simp only [zag,tl]
  have hb':=kp _ _ (by simp) hb
  have opp:purs (z.op.map dW)=true:=zbI fun w hw=>by obtain ⟨d,_,rfl⟩:=List.mem_map.mp hw;exact zct d
  have opd:deps (z.op.map dW)<=9:=zcK fun w hw=>by
   obtain ⟨d,hd,rfl⟩:=List.mem_map.mp hw
   have:=zeT d
   have:=(hz.op.2.2 d hd).2
   omega
  have opn:(z.op.map dW).Nodup:=zb7 (fun _ _=>zgX) hz.op.2.1
  refine stp ?_
  cases m with
  |dbt y t =>
   simp only [Mv.w]
   ((try dsimp only [semS,semE,semT,sem,mkE,mkB,blE,truE,semA,semO,semG,zab,semI,semC,conW,intR,blR,negR,gZ,gS,tZ,tS]);try simp only [ix0,cmpR,zah,zat,zzB,if_false])
   refine stk K C n ?_
   exact s7 G' p8 p9 p10 kp g8 g9 g10
  |ans y t s =>
   simp only [Mv.w]
   ((try dsimp only [semS,semE,semT,sem,mkE,mkB,blE,truE,semA,semO,semG,zab,semI,semC,conW,intR,blR,negR,gZ,gS,tZ,tS]);try simp only [ix0,cmpR,zah,beq_self_eq_true,if_true])
   refine attB hb' ?_
   ((try dsimp only [semS,semE,semT,sem,mkE,mkB,blE,truE,semA,semO,semG,zab,semI,semC,conW,intR,blR,negR,gZ,gS,tZ,tS]);try simp only [cmpR,zah])
   by_cases ho:x.b = "once"
   .rw [if_pos (by rw [ho,beq_self_eq_true])]
    simp only [ix1,memR,L3.inR,zac g10,g10]
    have pp:pur (W.tup [.str y,t.w])=true/\purs (z.op.map dW)=true/\min (deps (z.op.map dW)) (dep (W.tup [.str y,t.w]))<=150:=⟨zct (y,t),opp,by omega⟩
    refine ⟨pp,?_⟩
    cases ea:(z.op.map dW).any fun w=>eqW w (W.tup [.str y,t.w]) with
    |false =>
     simp only [zzB,if_false]
     refine stk K C n ?_
     refine s7 G' p8 p9 p10 kp g8 g9 ?_
     rw [g10,zdw ho]
     exact congrArg (fun l=>some (O.lst l)) (zhL ea).symm
    |true =>
     simp only [zzB,if_false,if_true]
     refine stp ?_
     ((try dsimp only [semS,semE,semT,sem,mkE,mkB,blE,truE,semA,semO,semG,zab,semI,semC,conW,intR,blR,negR,gZ,gS,tZ,tS]);try simp only [m3,ix1])
     refine ⟨tyL g10,?_⟩
     simp only [remS,g10]
     refine ⟨pp,ea,?_⟩
     refine stk K C n (stk K C n ?_)
     have k2:Keep [p10] G' (put G' p10 (.lst ((z.op.map dW).eraseIdx ((z.op.map dW).findIdx fun w=>eqW w (.tup [.str y,t.w]))))):=Keep.at
     refine s7 _ p8 p9 p10 (fun a o _ e=>k2 a o (by simpa using zba e h10) (kp a o (by simp) e)) (k2 _ _ (by simpa using n8) g8) (k2 _ _ (by simpa using n9) g9) ?_
     rw [zad,zdw ho]
     exact congrArg (fun l=>some (O.lst l)) (zgU (zh7 _) opn ea)
   .rw [if_neg (by simpa using ho)]
    simp only [zzB,if_false]
    refine stk K C n ?_
    exact s7 G' p8 p9 p10 kp g8 g9 (by rw [g10,zhG ho])
 simp only [zag,tl] at s6
 have s5:∀ (G':Hw) (p8 p9:Addr),Keep [] G G'->G' p8=some (.lst ((heard m r).map Sy.w))->G' p9=some (.lst ((made m r).map dW)) ->
   zaf (Gam K C n) XN (tl (tl (tl (tl zag)))) { nx:=fun _ G'=>Q .non G',rt:=Q } [some (.ref b),some z.w,some m.w,some r.w,some (.tup (z.sd.map Sy.w)),some (.tup (z.op.map dW)),some (.tup (z.us.map dW)),some (.tup (z.fr.map Sy.w)),some (.ref p8),some (.ref p9),none] G':=by
  intro G' p8 p9 kp g8 g9
  simp only [zag,tl]
  refine stp ?_
  ((try dsimp only [semS,semE,semT,sem,mkE,mkB,blE,truE,semA,semO,semG,zab,semI,semC,conW,intR,blR,negR,gZ,gS,tZ,tS]);try simp only [e3,lstS,za8])
  intro f hf
  exact s6 _ p8 p9 f (kp.trans (Keep.new hf)) (kp.none (by simp) hf) (zba g8 hf) (zba g9 hf) (by rw [zau (zba g8 hf)];exact g8) (by rw [zau (zba g9 hf)];exact g9) zad
 simp only [zag,tl] at s5
 show zaf (Gam K C n) XN zag { nx:=fun _ G'=>Q .non G',rt:=Q } [some (.ref b),some z.w,some m.w,some r.w,none,none,none,none,none,none,none] G
 simp only [zag]
 refine stp ?_
 ((try dsimp only [semS,semE,semT,sem,mkE,mkB,blE,truE,semA,semO,semG,zab,semI,semC,conW,intR,blR,negR,gZ,gS,tZ,tS]);try simp only [Sd.w])
 refine stp ?_
 ((try dsimp only [semS,semE,semT,sem,mkE,mkB,blE,truE,semA,semO,semG,zab,semI,semC,conW,intR,blR,negR,gZ,gS,tZ,tS]);try simp only [List.length_nil,z0,true_and])
 intro p8 h8
 have k8:Keep [] G (put G p8 (.lst [])):=Keep.new h8
 have g8:(put G p8 (.lst [])) p8=some (.lst []):=zad
 generalize put G p8 (.lst [])=G1 at k8 g8 ⊢
 refine stp ?_
 ((try dsimp only [semS,semE,semT,sem,mkE,mkB,blE,truE,semA,semO,semG,zab,semI,semC,conW,intR,blR,negR,gZ,gS,tZ,tS]);try simp only [List.length_nil,z0,true_and])
 intro p9 h9
 have k9:Keep [] G1 (put G1 p9 (.lst [])):=Keep.new h9
 have g9:(put G1 p9 (.lst [])) p9=some (.lst []):=zad
 generalize put G1 p9 (.lst [])=G2 at k9 g9 ⊢
 have g8:=k9 _ _ (by simp) g8
 have kp:=k8.trans k9
 refine stp ?_
 cases r with
 |ans s =>
  simp only [Ry.w]
  ((try dsimp only [semS,semE,semT,sem,mkE,mkB,blE,truE,semA,semO,semG,zab,semI,semC,conW,intR,blR,negR,gZ,gS,tZ,tS]);try simp only [ix0,cmpR,zah,beq_self_eq_true,if_true])
  refine stp ?_
  ((try dsimp only [semS,semE,semT,sem,mkE,mkB,blE,truE,semA,semO,semG,zab,semI,semC,conW,intR,blR,negR,gZ,gS,tZ,tS]);try simp only [ix1,zzC,zzL,zzA,Nat.reduceAdd,z1,true_and])
  intro q hq
  refine stk K C n ?_
  exact s5 _ q p9 (kp.trans (Keep.new hq)) zad (by rw [zau (zba g9 hq)];exact g9)
 |dbt y =>
  obtain ⟨s,es,hy⟩:=rk
  have em:made m (.dbt y)=[(y,s)]:=by simp only [made,es]
  have eh:heard m (.dbt y)=if y = "if" \/ y = "not" then [kid1 s] else []:=by simp only [heard,es]
  have et:zb1 m=s.w:=by simp only [zb1,es]
  simp only [Ry.w]
  ((try dsimp only [semS,semE,semT,sem,mkE,mkB,blE,truE,semA,semO,semG,zab,semI,semC,conW,intR,blR,negR,gZ,gS,tZ,tS]);try simp only [ix0,cmpR,zah,zat,zzB,if_false])
  refine stp ?_
  ((try dsimp only [semS,semE,semT,sem,mkE,mkB,blE,truE,semA,semO,semG,zab,semI,semC,conW,intR,blR,negR,gZ,gS,tZ,tS]);try simp only [ix1,e26])
  refine ⟨m,rfl,ok,?_⟩
  rw [et]
  ((try dsimp only [semS,semE,semT,sem,mkE,mkB,blE,truE,semA,semO,semG,zab,semI,semC,conW,intR,blR,negR,gZ,gS,tZ,tS]);try simp only [zzC,zzL,zzA,Nat.reduceAdd,z1,z2,true_and])
  intro q hq
  have k3:=kp.trans (Keep.new (o:=.lst [.tup [.str y,s.w]]) hq)
  have g9':(put G2 q (.lst [.tup [.str y,s.w]])) q=some (.lst ((made m (.dbt y)).map dW)):=by rw [zad,em];rfl
  have g8':(put G2 q (.lst [.tup [.str y,s.w]])) p8=some (.lst []):=by rw [zau (zba g8 hq)];exact g8
  generalize put G2 q (.lst [.tup [.str y,s.w]])=G3 at k3 g9' g8' ⊢
  have kid:∀ R:Q3,R (kid1 s).w G3->ixR s.w (.int 1) G3 R:=fun R hR=>by
   cases s with
   |say _=>cases hy
   |not a=>rw [Sy.w,ix1];exact hR
   |and a b=>rw [Sy.w,ix1];exact hR
   |or a b=>rw [Sy.w,ix1];exact hR
   |ite a b=>rw [Sy.w,ix1];exact hR
  have yes:(y = "if" \/ y = "not")->zaf (Gam K C n) XN (.cons (.asg 8 (.lst (.cons (.ix (.call 26 (.cons (.var 2) .nil)) (.con (.int 1))) .nil))) .nil)
    { nx:=zaf (Gam K C n) XN .nil { nx:=zaf (Gam K C n) XN (tl (tl (tl (tl zag)))) { nx:=fun _ G'=>Q .non G',rt:=Q },rt:=Q },rt:=Q } [some (.ref b),some z.w,some m.w,some (.tup [.str "doubt", .str y]),some (.tup (z.sd.map Sy.w)),some (.tup (z.op.map dW)),some (.tup (z.us.map dW)),some (.tup (z.fr.map Sy.w)),some (.ref p8),some (.ref q),none] G3:=fun hc=>by
   simp only [zag,tl]
   refine stp ?_
   ((try dsimp only [semS,semE,semT,sem,mkE,mkB,blE,truE,semA,semO,semG,zab,semI,semC,conW,intR,blR,negR,gZ,gS,tZ,tS]);try simp only [e26])
   refine ⟨m,rfl,ok,?_⟩
   rw [et]
   refine kid _ ?_
   ((try dsimp only [semS,semE,semT,sem,mkE,mkB,blE,truE,semA,semO,semG,zab,semI,semC,conW,intR,blR,negR,gZ,gS,tZ,tS]);try simp only [zzC,zzL,zzA,Nat.reduceAdd,z1,true_and])
   intro q' hq'
   refine stk K C n (stk K C n ?_)
   exact s5 _ q' q (k3.trans (Keep.new hq')) (by rw [zad,eh,if_pos hc];rfl) (by rw [zau (zba g9' hq')];exact g9')
  simp only [zag,tl] at yes
  refine stp ?_
  ((try dsimp only [semS,semE,semT,sem,mkE,mkB,blE,truE,semA,semO,semG,zab,semI,semC,conW,intR,blR,negR,gZ,gS,tZ,tS]);try simp only [ix1,cmpR,zah])
  cases c1:(y == "if") with
  |true =>
   simp only [if_true]
   exact yes (.inl (by simpa using c1))
  |false =>
   simp only [zzB,if_false,ix1,zah]
   cases c2:(y == "not") with
   |true =>
    simp only [if_true]
    exact yes (.inr (by simpa using c2))
   |false =>
    simp only [zzB,if_false]
    refine stk K C n (stk K C n ?_)
    have hc:¬ (y = "if" \/ y = "not"):=fun e=>e.elim (fun e=>by rw [e,beq_self_eq_true] at c1;cases c1) (fun e=>by rw [e,beq_self_eq_true] at c2;cases c2)
    exact s5 _ p8 q k3 (by rw [g8',eh,if_neg hc];rfl) g9'
end
end K23
set_option Elab.async false
set_option linter.all false
set_option maxRecDepth 100000
set_option maxHeartbeats 8000000
namespace K23
open PySem PySem.Spec PyProof.Rows L2 L3
theorem zjB {α:Type} {φ:α->W} {P:α->Prop}:∀ {ws:List W},(∀ w∈ws,∃ a,w=φ a/\P a)->∃ as:List α,ws=as.map φ/\∀ a∈as,P a
 | [],_=>⟨[],rfl,fun _ h=>nomatch h⟩
 |w::ws,h=>by
  obtain ⟨a,rfl,ha⟩:=h w List.mem_cons_self
  obtain ⟨as,rfl,has⟩:=zjB (ws:=ws) fun v hv=>h v (List.mem_cons_of_mem _ hv)
  refine ⟨a::as,rfl,fun b hb=>?_⟩
  rcases List.mem_cons.mp hb with rfl | hb
  .exact ha
  .exact has b hb
theorem zlS {x:Bk} {z:Sd} (h:z.ok):∀ m∈pre x z,m.big 8/\m.ok:=by
 intro m hm
 rcases List.mem_append.mp hm with hm | hm
 .obtain ⟨d,hd,hm⟩:=List.mem_flatMap.mp hm
  obtain ⟨s,hs,rfl⟩:=List.mem_map.mp hm
  have h1:=(h.op.2.2 d hd).2
  have h2:=(zbU d.1 d.2).2.2 s (List.mem_filter.mp hs).1
  exact ⟨⟨by omega,by omega⟩,by omega,by omega⟩
 .obtain ⟨s,hs,hm⟩:=List.mem_flatMap.mp hm
  obtain ⟨y,hy,rfl⟩:=List.mem_map.mp hm
  have:=(zbs h).2.2 s hs
  exact ⟨this,(List.mem_filter.mp hy).1,by omega⟩
theorem zma {x:Bk} {z:Sd} (h:z.ok):∃ ms:List Mv,mvs x z=ms.map Mv.w/\∀ m∈ms,m.big 8/\m.ok:=by
 refine zjB fun w hw=>?_
 obtain ⟨m,hm,e⟩:=List.mem_map.mp ((zaM _).mem_iff.mp hw)
 exact ⟨m,e.symm,zlS h m hm⟩
theorem zj6 {m:Mv} (ok:m.ok):∃ rs:List Ry,repl m=rs.map Ry.w/\∀ r∈rs,r.ok m:=by
 refine zjB fun w hw=>?_
 rcases List.mem_append.mp ((zaM _).mem_iff.mp hw) with hw | hw
 .unfold preA at hw
  split at hw
  .rename_i s e
   obtain ⟨v,hv,rfl⟩:=List.mem_map.mp hw
   obtain ⟨x,hx,rfl⟩:=List.mem_map.mp hv
   exact ⟨.dbt x,rfl,s,e,hx⟩
  .cases hw
 .cases m with
  |ans x t u=>cases hw
  |dbt x t =>
   obtain ⟨v,hv,rfl⟩:=List.mem_map.mp (show w∈(ans x t).map _ from hw)
   obtain ⟨us,e,_,hs⟩:=zd8 (x:=x) (t:=t)
   rw [e] at hv
   obtain ⟨u,hu,rfl⟩:=List.mem_map.mp hv
   exact ⟨.ans u,rfl,Nat.le_trans (hs u hu) ok.2⟩
def Low (n:Nat) (l:List W):Prop:=l.length<=1000/\∀ w∈l,L3.st w=true/\dep w<=n
theorem Low.st {n:Nat} {l:List W} (h:Low n l):L3.st (.tup l)=true:=zbW.mpr ⟨h.1,zcq fun w hw=>(h.2 w hw).1⟩
theorem Low.dep {n:Nat} {l:List W} (h:Low n l):L3.dep (.tup l)<=n+1:=Nat.succ_le_succ (zcK fun w hw=>(h.2 w hw).2)
theorem Low.sub {n:Nat} {l l':List W} (h:Low n l) (hl:l'.length<=l.length) (hm:∀ w∈l',w∈l):Low n l':=⟨Nat.le_trans hl h.1,fun w hw=>h.2 w (hm w hw)⟩
theorem Low.nil {n:Nat}:Low n []:=⟨Nat.zero_le _,fun _ h=>nomatch h⟩
theorem Low.uni {n:Nat} {a b:List W} (h:Low n (a++b)):Low n (L3.uni a b):=by
 have hb:sts b=true:=zcq fun w hw=>(h.2 w (List.mem_append.mpr (.inr hw))).1
 refine h.sub ?_ fun w hw=>(zln hb w).mp hw
 rw [show (L3.uni a b).length=_ from (zaM _).length_eq,List.length_append,List.length_append]
 have:=List.length_filter_le (fun w=>!(b.any fun z=>eqW z w)) a
 omega
theorem ziD {l:List (Str×Sy)} (hl:l.length<=100) (h:∀ d∈l,d.2.size<=8):Low 21 (l.map dW):=by
 refine ⟨by rw [List.length_map];omega,fun w hw=>?_⟩
 obtain ⟨d,hd,rfl⟩:=List.mem_map.mp hw
 have:=zeT d
 have:=h d hd
 exact ⟨zmS d,by omega⟩
theorem znj {l:List Sy} (hl:l.length<=100) (h:∀ d∈l,d.size<=21):Low 21 (l.map Sy.w):=by
 refine ⟨by rw [List.length_map];omega,fun w hw=>?_⟩
 obtain ⟨d,hd,rfl⟩:=List.mem_map.mp hw
 have:=Sy.dep d
 have:=h d hd
 exact ⟨d.st,by omega⟩
theorem told8 {m:Mv} (h:m.big 8) {s:Sy} (e:zbm m=some s):s.size<=8:=by
 cases m with
 |ans x t u=>cases e;exact h.2
 |dbt x t =>
  simp only [zbm] at e
  split at e
  .cases e;exact Nat.le_trans (zfC t) h
  .cases e
theorem zmi {m:Mv} {r:Ry} (h:m.big 8):∀ d∈made m r,d.2.size<=8:=by
 cases r with
 |ans s=>exact fun d hd=>nomatch hd
 |dbt x =>
  intro d hd
  cases e:zbm m with
  |none=>simp only [made,e] at hd;cases hd
  |some s =>
   simp only [made,e] at hd
   rw [List.mem_singleton.mp hd]
   exact told8 h e
theorem zks {as bs:List (Str×Sy)} (h1:as.length<=17) (h2:bs.length<=1) (ha:∀ d∈as,d.2.size<=8) (hb:∀ d∈bs,d.2.size<=8):Low 21 (as.map dW++bs.map dW):=by
 rw [← List.map_append]
 refine ziD (by rw [List.length_append];omega) fun d hd=>?_
 rcases List.mem_append.mp hd with hd | hd
 .exact ha d hd
 .exact hb d hd
theorem zlG {x:Bk} {z:Sd} {m:Mv} {r:Ry} {G:Hw} (hz:z.ok) (hb:m.big 8) (ok:m.ok) (rk:r.ok m):Same 24 G (resW x z m r) (resW x z m r):=by
 obtain ⟨hh1,hh2⟩:=zcH ok rk
 obtain ⟨hm1,_⟩:=zde ok rk
 have hm2:=zmi (r:=r) hb
 have op8:∀ d∈z.op,d.2.size<=8:=fun d hd=>(hz.op.2.2 d hd).2
 have us8:∀ d∈z.us,d.2.size<=8:=fun d hd=>(hz.us.2.2 d hd).2
 have c4:Low 21 ((heard m r).map Sy.w):=znj (by omega) hh2
 have c1:Low 21 (L3.uni (z.sd.map Sy.w) ((heard m r).map Sy.w)):=by
  refine Low.uni ?_
  rw [← List.map_append]
  refine znj (by rw [List.length_append];have:=hz.sd.1;omega) fun s hs=>?_
  rcases List.mem_append.mp hs with hs | hs
  .have:=hz.sd.2.2 s hs;omega
  .exact hh2 s hs
 have c2:Low 21 (zc8 x z.op m (made m r)):=by
  have mk:=ziD (l:=made m r) (by omega) hm2
  have op:=ziD (l:=z.op) (by have:=hz.op.1;omega) op8
  unfold zc8
  split
  .exact mk
  .split
   .split
    .exact op
    .exact mk
   .obtain ⟨zs,ez,sb⟩:=zdZ x z.op m
    rw [ez]
    exact Low.uni (zks (Nat.le_trans sb.length_le hz.op.1) hm1 (fun d hd=>op8 d (sb.subset hd)) hm2)
 have c3:Low 21 (zeb x z.us m):=by
  have us:=ziD (l:=z.us) (by have:=hz.us.1;omega) us8
  by_cases hc:x.c = "once"
  .cases m with
   |ans y t s=>rw [ze0 hc];exact us
   |dbt y t =>
    rw [zeZ hc]
    exact Low.uni (zks (bs:=[(y,t)]) hz.us.1 (Nat.le_refl _) us8 fun d hd=>by rw [List.mem_singleton.mp hd];exact hb)
  .rw [zhf hc];exact Low.nil
 have c4':Low 21 (if x.e = "last" then (heard m r).map Sy.w else []):=by
  split
  .exact c4
  .exact Low.nil
 have all:Low 22 [.tup (L3.uni (z.sd.map Sy.w) ((heard m r).map Sy.w)),.tup (zc8 x z.op m (made m r)),.tup (zeb x z.us m),.tup (if x.e = "last" then (heard m r).map Sy.w else [])]:=by
  refine ⟨by show 4<=1000;decide,fun w hw=>?_⟩
  rcases List.mem_cons.mp hw with rfl | hw
  .exact ⟨c1.st,c1.dep⟩
  rcases List.mem_cons.mp hw with rfl | hw
  .exact ⟨c2.st,c2.dep⟩
  rcases List.mem_cons.mp hw with rfl | hw
  .exact ⟨c3.st,c3.dep⟩
  .rw [List.mem_singleton.mp hw];exact ⟨c4'.st,c4'.dep⟩
 exact .inl ⟨rfl,all.st,Nat.lt_succ_of_le all.dep⟩
theorem zlv {t:Sy} (h:t.size<=8):(zjL t).ok:=⟨zcf,⟨by show 1<=17;decide,znf _,fun d hd=>by rw [List.mem_singleton.mp hd];exact ⟨.inr rfl,h⟩⟩,zev,zcf,.nil,List.pairwise_singleton _ _,.nil⟩
section
variable {K : Frg} {C : Addr}
theorem zj3 {n:Nat} (hn:34<=n) {ws:List W} {G:Hw} {Q:Q3} (h:ze7 C ws G Q XN):zaf (Gam K C n) XN zbS { nx:=fun _ G'=>Q .non G',rt:=Q } (zap zcA ws) G:=by
 obtain ⟨b,x,z,rfl,hb,hx,hz,hu,h⟩:=h
 have e13:(Gam K C n).fn[13]?=some ⟨"_law_alike", zaP 24⟩:=fnA 13 hn rfl
 have e27:(Gam K C n).fn[27]?=some ⟨"_law_moves", spMv C⟩:=fnA 27 hn rfl
 have e31:(Gam K C n).fn[31]?=some ⟨"after", zb3 C⟩:=fnA 31 hn rfl
 have e32:(Gam K C n).fn[32]?=some ⟨"_law_replies", zid⟩:=fnA 32 hn rfl
 have e33:(Gam K C n).fn[33]?=some ⟨"_law_after", zb3 C⟩:=fnA 33 hn rfl
 have i0:(Gam K C n).it[0]?=some eRng:=rfl
 show zaf (Gam K C n) XN zbS { nx:=fun _ G'=>Q .non G',rt:=Q } [some (.ref b),some z.w,none,none,none,none] G
 simp only [zbS]
 refine stp ?_
 ((try dsimp only [semS,semE,semT,sem,mkE,mkB,blE,truE,semA,semO,semG,zab,semI,semC,conW,intR,blR,negR,gZ,gS,tZ,tS]);try simp only [semI,i0])
 refine ⟨⟨by decide,by decide⟩,?_⟩
 refine ⟨fun i σ G'=>∃ v2 v3 v4 v5:Option W,σ=[some (.ref b),some z.w,v2,v3,v4,v5]/\Keep [] G G',⟨none,none,none,none,rfl,Keep.refl⟩,fun _ _ _ _ _=>trivial,?_,?_⟩
 .rintro i w σ G1 hw ⟨v2,v3,v4,v5,rfl,k1⟩
  (try dsimp only [semS,semE,semT,sem,mkE,mkB,blE,truE,semA,semO,semG,zab,semI,semC,conW,intR,blR,negR,gZ,gS,tZ,tS])
  refine stp ?_
  ((try dsimp only [semS,semE,semT,sem,mkE,mkB,blE,truE,semA,semO,semG,zab,semI,semC,conW,intR,blR,negR,gZ,gS,tZ,tS]);try simp only [e27,semI])
  refine ⟨b,x,z,rfl,k1 _ _ (by simp) hb,hx,hz,fun p G2 k2 hp gp=>?_⟩
  obtain ⟨ms,em,hms⟩:=zma (x:=x) hz
  rw [em] at gp
  simp only [zbc,zac gp]
  have k12:=k1.trans k2
  refine ⟨fun i σ G'=>∃ v3 v4 v5:Option W,σ=[some (.ref b),some z.w,some w,v3,v4,v5]/\Keep [] G2 G',⟨_,_,_,rfl,Keep.refl⟩,?_,?_,?_⟩
  .rintro i σ G' ⟨v3,v4,v5,rfl,kp⟩ _
   exact zac (kp _ _ (by simp) gp)
  .rintro j w1 σ G3 hw1 ⟨v3,v4,v5,rfl,k3⟩
   rw [List.getElem?_map] at hw1
   obtain ⟨m,hm,rfl⟩:=Option.map_eq_some_iff.mp hw1
   obtain ⟨hb8,ok⟩:=hms m (List.mem_of_getElem? hm)
   (try dsimp only [semS,semE,semT,sem,mkE,mkB,blE,truE,semA,semO,semG,zab,semI,semC,conW,intR,blR,negR,gZ,gS,tZ,tS])
   refine stp ?_
   ((try dsimp only [semS,semE,semT,sem,mkE,mkB,blE,truE,semA,semO,semG,zab,semI,semC,conW,intR,blR,negR,gZ,gS,tZ,tS]);try simp only [e32,semI])
   refine ⟨m,rfl,ok,fun q G4 k4 hq gq=>?_⟩
   obtain ⟨rs,er,hrs⟩:=zj6 ok
   rw [er] at gq
   simp only [zbc,zac gq]
   refine ⟨fun i σ G'=>∃ v4 v5:Option W,σ=[some (.ref b),some z.w,some w,some m.w,v4,v5]/\Keep [] G4 G',⟨_,_,rfl,Keep.refl⟩,?_,?_,?_⟩
   .rintro i σ G' ⟨v4,v5,rfl,kp⟩ _
    exact zac (kp _ _ (by simp) gq)
   .rintro j' w2 σ G5 hw2 ⟨v4,v5,rfl,k5⟩
    rw [List.getElem?_map] at hw2
    obtain ⟨r,hr,rfl⟩:=Option.map_eq_some_iff.mp hw2
    have rk:=hrs r (List.mem_of_getElem? hr)
    have k15:=((k12.trans k3).trans k4).trans k5
    (try dsimp only [semS,semE,semT,sem,mkE,mkB,blE,truE,semA,semO,semG,zab,semI,semC,conW,intR,blR,negR,gZ,gS,tZ,tS])
    refine stp ?_
    ((try dsimp only [semS,semE,semT,sem,mkE,mkB,blE,truE,semA,semO,semG,zab,semI,semC,conW,intR,blR,negR,gZ,gS,tZ,tS]);try simp only [e31])
    refine ⟨b,x,z,m,r,rfl,k15 _ _ (by simp) hb,hx,hz,hu,ok,rk,fun G6 k6=>?_⟩
    refine stp ?_
    ((try dsimp only [semS,semE,semT,sem,mkE,mkB,blE,truE,semA,semO,semG,zab,semI,semC,conW,intR,blR,negR,gZ,gS,tZ,tS]);try simp only [e13,e33])
    refine ⟨b,x,z,m,r,rfl,k6 _ _ (by simp) (k15 _ _ (by simp) hb),hx,hz,hu,ok,rk,fun G7 k7=>?_⟩
    refine ⟨_,_,rfl,zlG hz hb8 ok rk,fun G8 k8=>?_⟩
    ((try dsimp only [semS,semE,semT,sem,mkE,mkB,blE,truE,semA,semO,semG,zab,semI,semC,conW,intR,blR,negR,gZ,gS,tZ,tS]);try simp only [truW,Bool.not_true,zzB,if_false])
    refine stk K C n (stk K C n ?_)
    exact ⟨_,_,rfl,((k5.trans k6).trans k7).trans k8⟩
   .rintro σ G' ⟨v4,v5,rfl,kp⟩
    refine stk K C n ?_
    exact ⟨_,_,_,rfl,(k3.trans k4).trans kp⟩
  .rintro σ G' ⟨v3,v4,v5,rfl,kp⟩
   refine stk K C n ?_
   exact ⟨_,_,_,_,rfl,k12.trans kp⟩
 .rintro σ G' ⟨v2,v3,v4,v5,rfl,kp⟩
  refine stp ?_
  (try dsimp only [semS,semE,semT,sem,mkE,mkB,blE,truE,semA,semO,semG,zab,semI,semC,conW,intR,blR,negR,gZ,gS,tZ,tS])
  exact h G' kp
theorem zoj {a:W} {ns:List Int} {G:Hw} {Q:Q3} (hs:zjw G a ns) (hl:ns.length<=63) (hq:∀ G',Q (.bl true) G'):zaf (Gam K C 35) XN blaw { nx:=fun _ G'=>Q .non G',rt:=Q } (zap nlaw [a]) G:=by
 have e7:(Gam K C 35).fn[7]?=some zqV:=rfl
 have e8:(Gam K C 35).fn[8]?=some zhN:=rfl
 have e9:(Gam K C 35).fn[9]?=some ⟨"_law_saying", zaT 10⟩:=rfl
 have e10:(Gam K C 35).fn[10]?=some ⟨"_law_names", ze8⟩:=rfl
 have e21:(Gam K C 35).fn[21]?=some ⟨"_law_book", ze9 C⟩:=rfl
 have e23:(Gam K C 35).fn[23]?=some ⟨"_law_start", ze6⟩:=rfl
 have e25:(Gam K C 35).fn[25]?=some ⟨"_law_standing", zce C⟩:=rfl
 have e34:(Gam K C 35).fn[34]?=some ⟨"_law_right", ze7 C⟩:=rfl
 have i0:(Gam K C 35).it[0]?=some eRng:=rfl
 show zaf (Gam K C 35) XN blaw { nx:=fun _ G'=>Q .non G',rt:=Q } [some a,none,none,none,none] G
 simp only [blaw]
 refine stp ?_
 ((try dsimp only [semS,semE,semT,sem,mkE,mkB,blE,truE,semA,semO,semG,zab,semI,semC,conW,intR,blR,negR,gZ,gS,tZ,tS]);try simp only [e7])
 refine ⟨a,0,ns,rfl,hs,hl,by decide,fun d l G1 hd hl' k1 D1=>?_⟩
 refine stp ?_
 ((try dsimp only [semS,semE,semT,sem,mkE,mkB,blE,truE,semA,semO,semG,zab,semI,semC,conW,intR,blR,negR,gZ,gS,tZ,tS]);try simp only [e8,e9,e10])
 refine ⟨d,l,4,rfl,D1,by decide,fun r1 G2 r10 r11 k2 D2=>?_⟩
 ((try dsimp only [semS,semE,semT,sem,mkE,mkB,blE,truE,semA,semO,semG,zab,semI,semC,conW,intR,blR,negR,gZ,gS,tZ,tS]);try simp only [binR])
 refine ⟨d,l,1+r1,rfl,D2,by omega,by omega,fun r xs G3 hx hxl hr gr k3 D3=>?_⟩
 refine ⟨d,l,8,rfl,D3,by decide,fun r2 G4 r20 r21 k4 D4=>?_⟩
 refine ⟨d,l,r,1+r2,xs,rfl,D4,hr,k4 _ _ hr gr,hx,hxl,by omega,by omega,by omega,fun t G5 ht k5 D5=>?_⟩
 have ht8:t.size<=8:=by omega
 refine stp ?_
 ((try dsimp only [semS,semE,semT,sem,mkE,mkB,blE,truE,semA,semO,semG,zab,semI,semC,conW,intR,blR,negR,gZ,gS,tZ,tS]);try simp only [semI,i0])
 refine ⟨⟨by decide,by decide⟩,?_⟩
 refine ⟨fun i σ G'=>∃ v3 v4:Option W,σ=[some a,some (.ref d),some t.w,v3,v4]/\Deal G' d l,⟨none,none,rfl,D5⟩,fun _ _ _ _ _=>trivial,?_,?_⟩
 .rintro i w σ G' hw ⟨v3,v4,rfl,D'⟩
  (try dsimp only [semS,semE,semT,sem,mkE,mkB,blE,truE,semA,semO,semG,zab,semI,semC,conW,intR,blR,negR,gZ,gS,tZ,tS])
  refine stp ?_
  ((try dsimp only [semS,semE,semT,sem,mkE,mkB,blE,truE,semA,semO,semG,zab,semI,semC,conW,intR,blR,negR,gZ,gS,tZ,tS]);try simp only [e21])
  refine ⟨d,l,rfl,D',fun p x G8 hx hp hpd k8 D8 hb=>?_⟩
  refine stp ?_
  ((try dsimp only [semS,semE,semT,sem,mkE,mkB,blE,truE,semA,semO,semG,zab,semI,semC,conW,intR,blR,negR,gZ,gS,tZ,tS]);try simp only [e25,e23,e34])
  refine ⟨d,l,p,x,t,rfl,D8,hb,hpd,ht8,fun z G9 hz hu k9 D9=>?_⟩
  have hb9:IsBk C G9 p x:=k9 _ _ hpd hb
  refine ⟨p,x,z,rfl,hb9,hx,hz,hu,fun G10 k10=>?_⟩
  ((try dsimp only [semS,semE,semT,sem,mkE,mkB,blE,truE,semA,semO,semG,zab,semI,semC,conW,intR,blR,negR,gZ,gS,tZ,tS]);try simp only [truW,Bool.not_true,zzB,if_false])
  refine ⟨t,rfl,p,x,zjL t,rfl,k10 _ _ (by simp) hb9,hx,zlv ht8,fun _=>rfl,fun G11 k11=>?_⟩
  ((try dsimp only [semS,semE,semT,sem,mkE,mkB,blE,truE,semA,semO,semG,zab,semI,semC,conW,intR,blR,negR,gZ,gS,tZ,tS]);try simp only [truW,Bool.not_true,zzB,if_false])
  refine stk K C 35 (stk K C 35 ?_)
  exact ⟨_,_,rfl,zcc (S:=[]) (k10.trans k11) (by simp) (by simp) D9⟩
 .rintro σ G' ⟨v3,v4,rfl,D'⟩
  refine stp ?_
  (try dsimp only [semS,semE,semT,sem,mkE,mkB,blE,truE,semA,semO,semG,zab,semI,semC,conW,intR,blR,negR,gZ,gS,tZ,tS])
  exact hq _
end
end K23
set_option Elab.async false
set_option linter.all false
set_option maxRecDepth 100000
set_option maxHeartbeats 8000000
namespace K23
open PySem PySem.Spec PyProof.Rows L2 L3
structure Txt (K:Frg) (mg:Str->Option Value) (C fI dT:Addr):Prop where
 cl:Cls K C
 nf:∀ f∈zbL,zcu K C f
 mgC:mg "Book" = some (.ref C)
 mkC:Mk K C fI
 hI:HD K "__init__" "Book.__init__" zbi (.ref dT) fI
 dT:∃ o t n,K.lookup dT=some o/\o.data=.seq #[.str "last" t] n
 deal:∃ f,mg "_law_deal" = some (.ref f)/\HD K "_law_deal" "_law_deal" zbg .none f
 draw:∃ f,mg "_law_draw" = some (.ref f)/\HD K "_law_draw" "_law_draw" zbf .none f
 saying:∃ f,mg "_law_saying" = some (.ref f)/\HD K "_law_saying" "_law_saying" zaQ .none f
 names:∃ f,mg "_law_names" = some (.ref f)/\HD K "_law_names" "_law_names" za0 .none f
 parts:∃ f,mg "_law_all_parts" = some (.ref f)/\HD K "_law_all_parts" "_law_all_parts" zaw .none f
 said:∃ f,mg "said_by" = some (.ref f)/\HD K "said_by" "said_by" zbG .none f
 alike:∃ f,mg "_law_alike" = some (.ref f)/\HD K "_law_alike" "_law_alike" za2 .none f
 words:∃ f,mg "_law_words" = some (.ref f)/\HD K "_law_words" "_law_words" zaX .none f
 told:∃ f,mg "told_by" = some (.ref f)/\HD K "told_by" "told_by" zbE .none f
 once:∃ f,mg "sorted_once" = some (.ref f)/\HD K "sorted_once" "sorted_once" zaO .none f
 made:∃ f,mg "made_by" = some (.ref f)/\HD K "made_by" "made_by" zbH .none f
 lans:∃ f,mg "_law_answers" = some (.ref f)/\HD K "_law_answers" "_law_answers" zaF .none f
 lbook:∃ f,mg "_law_book" = some (.ref f)/\HD K "_law_book" "_law_book" zbh .none f
 join:∃ f,mg "joined" = some (.ref f)/\HD K "joined" "joined" zcv .none f
 lstart:∃ f,mg "_law_start" = some (.ref f)/\HD K "_law_start" "_law_start" zaY .none f
 some_:∃ f,mg "_law_some" = some (.ref f)/\HD K "_law_some" "_law_some" zbd .none f
 stand:∃ f,mg "_law_standing" = some (.ref f)/\HD K "_law_standing" "_law_standing" zay .none f
 says:∃ f,mg "_law_says" = some (.ref f)/\HD K "_law_says" "_law_says" zbe .none f
 lmoves:∃ f,mg "_law_moves" = some (.ref f)/\HD K "_law_moves" "_law_moves" za1 .none f
 heard:∃ f,mg "heard_by" = some (.ref f)/\HD K "heard_by" "heard_by" zbp .none f
 open_:∃ f,mg "open_after" = some (.ref f)/\HD K "open_after" "open_after" zaW .none f
 used:∃ f,mg "used_after" = some (.ref f)/\HD K "used_after" "used_after" zaV .none f
 after:∃ f,mg "after" = some (.ref f)/\HD K "after" "after" zdF .none f
 lrepl:∃ f,mg "_law_replies" = some (.ref f)/\HD K "_law_replies" "_law_replies" zaE .none f
 lafter:∃ f,mg "_law_after" = some (.ref f)/\HD K "_law_after" "_law_after" za3 .none f
 right:∃ f,mg "_law_right" = some (.ref f)/\HD K "_law_right" "_law_right" zaZ .none f
 max:mg "max" = none
 len:mg "len" = none
 all:mg "all" = none
 list:mg "list" = none
 isi:mg "isinstance" = none
 srt:mg "sorted" = none
 int:mg "int" = none
 range:mg "range" = none
 rev:mg "reversed" = none
 zip:mg "zip" = none
 str:mg "str" = none
 tup:mg "tuple" = none
def rk (n:Nat):Nat:=2 * n+2+(if 10<=n then 12 else 0)+(if 12<=n then 24 else 0)+(if 14<=n then 26 else 0)
section
variable {q : Pr} {C fI dT : Addr}
def Pn (q:Pr) (C:Addr) (n:Nat):Prop:=∀ A,Room (rk n) A->∀ f∈(fnL q.K C).take n,zc4 (q.at A) f
theorem zqQ (T:Txt q.K q.mg C fI dT) {l:List Fn3} {A:Around} (hu:A.units+200<cLine) (h:∀ f∈l,zc4 (q.at A) f):Good (GamL C l) (q.at A) :=
 zoC (Γ:=GamL C l) hu h
  (zai (zhK T.str (by decide +kernel)) (zai (zhK T.tup (by decide +kernel)) (zai (zhK T.list (by decide +kernel)) zbk)))
  (zai zoN (zai zmM (zai zoT (zai (zoM hu) zbk))))
  (zai (zoK T.range) (zai (zoH T.zip) zbk))
  (zai ⟨T.cl,T.nf⟩ zbk)
  (zai (zoL T.list T.rev) zbk) rfl
theorem ze1 {k:Nat} {A:Around} (hr:Room k A):A.units+200<cLine:=by have:=hr.un;omega
theorem good (T:Txt q.K q.mg C fI dT) {n:Nat} (h:Pn q C n):∀ A,Room (rk n) A->Good (Gam q.K C n) (q.at A):=fun A hr=>zqQ T (ze1 hr) (h A hr)
theorem next {n:Nat} {e:Fn3} (h:Pn q C n) (hk:rk n<=rk (n+1)) (he:(fnL q.K C).take (n+1)=(fnL q.K C).take n++[e]) (hx:∀ A,Room (rk (n+1)) A->zc4 (q.at A) e):Pn q C (n+1):=fun A hr=>by
 rw [he]
 exact zd3 (h A (hr.mono hk)) (hx A hr)
theorem p7 (T:Txt q.K q.mg C fI dT):Pn q C 7:=fun A hr=>zai (zoO T.max) (zai (zoQ T.len) (zai (zoU T.all) (zai (zoP T.list) (zai (zoR T.isi) (zai (zoJ (ze1 hr) T.srt) (zai (zoS T.int) zbk))))))
theorem more {n:Nat} {nm qual:Str} {st:Stmt} {f:Addr} {M:MC} {ps:List Str} {sp:Sp3} {body:ISs} (T:Txt q.K q.mg C fI dT) (h:Pn q C n) (hk:rk n+1<=rk (n+1)) (hm:q.mg nm=some (.ref f)) (hd:HD q.K nm qual st .none f) (S:FnScope M.N ps (zaa st)) (eM:MOk (Gam q.K C n) M (zaa st)) (look:mSs body M (zae st)=true)
  (len:∀ ws G Q,sp ws G Q XN->ws.length=ps.length) (hb:∀ ws G Q,sp ws G Q XN->zaf (Gam q.K C n) XN body { nx:=fun _ G'=>Q .non G',rt:=Q } (zap M.N ws) G) (mono:zhZ ⟨nm,sp⟩)
  (hbind:∀ (kV doc pm:Value) (an:Option Addr) (cdv ct:Value) (us:List Value),us.length=ps.length->bindArgs (PySem.W.fnOf nm qual (zak st) (zae st) (zaa st) .none kV doc pm an cdv ct) ⟨us,[]⟩=pure (ps.zip us))
  (he:(fnL q.K C).take (n+1)=(fnL q.K C).take n++[⟨nm,sp⟩]):Pn q C (n+1):=by
 obtain ⟨fd,F,_⟩:=hd.fd
 have FO:=zfG F S (good T h) eM look len hb
 exact next h (by omega) he fun A hr=>zhM FO hm F.kp (zfK F hbind) mono hr hk
theorem zod {n N:Nat} {nm qual:Str} {st:Stmt} {f:Addr} {M:MC} {ps:List Str} {sp:Nat->Sp3} {body:ISs} (T:Txt q.K q.mg C fI dT) (h:Pn q C n) (hk:rk n+N<=rk (n+1)) (hm:q.mg nm=some (.ref f)) (hd:HD q.K nm qual st .none f) (S:FnScope M.N ps (zaa st)) (eM:∀ j,MOk (GamR q.K C n ⟨nm,sp j⟩) M (zaa st)) (look:mSs body M (zae st)=true)
  (h0:∀ ws G Q,¬ sp 0 ws G Q XN) (len:∀ j ws G Q,sp j ws G Q XN->ws.length=ps.length) (hb:∀ j ws G Q,sp (j+1) ws G Q XN->zaf (GamR q.K C n ⟨nm,sp j⟩) XN body { nx:=fun _ G'=>Q .non G',rt:=Q } (zap M.N ws) G) (mono:∀ j,zhZ ⟨nm,sp j⟩)
  (hbind:∀ (kV doc pm:Value) (an:Option Addr) (cdv ct:Value) (us:List Value),us.length=ps.length->bindArgs (PySem.W.fnOf nm qual (zak st) (zae st) (zaa st) .none kV doc pm an cdv ct) ⟨us,[]⟩=pure (ps.zip us))
  (he:(fnL q.K C).take (n+1)=(fnL q.K C).take n++[⟨nm,sp N⟩]):Pn q C (n+1):=by
 obtain ⟨fd,F,_⟩:=hd.fd
 have FO:=zm8 (k:=rk n) (Γ:=fun e=>GamR q.K C n e) F S hm (zfK F hbind) h0 len mono (fun j A hr hx=>zqQ T (ze1 hr) (zd3 (h A hr) hx)) eM look hb N
 exact next h (by omega) he fun A hr=>zhM FO hm F.kp (zfK F hbind) (mono N) hr hk
theorem zk6 {K:Frg} {x qual:Str} {st:Stmt} {T f:Addr} {fd:FuncData} {ps:List Str} {o:Obj} {items:Array Value} {n:Nat} {ds:List Value} (F:FunD K x qual st (.ref T) f fd) (l:K.lookup T=some o) (hd:o.data=.seq items n)
  (h:∀ (kV doc pm:Value) (an:Option Addr) (cdv ct:Value) (us:List Value),(us++ds).length=ps.length->∃ k:Option (Array Value)->Sem (List (Str×Value)),bindArgs (PySem.W.fnOf x qual (zak st) (zae st) (zaa st) (.ref T) kV doc pm an cdv ct) ⟨us,[]⟩=seqItems? (.ref T) >>= k/\k (some items)=pure (ps.zip (us++ds))):zc5 K fd ps ds:=by
 obtain ⟨oc,od,kV,doc,pm,an,cdv,ct,osl,rfl,lk,hcd⟩:=F.ex
 intro s us X hl
 obtain ⟨k,h1,h2⟩:=h kV doc pm an cdv ct us hl
 exact BindsTo.of_defaults rfl (X _ _ l) hd h1 h2
theorem usS {P:List Value->Prop} {n:Nat} (h:∀ a l,l.length=n->P (a::l)) (us:List Value) (e:us.length=n+1):P us:=by
 cases us with
 |nil=>exact absurd e (Nat.succ_ne_zero n).symm
 |cons a l=>exact h a l (Nat.succ.inj e)
theorem us0 {P:List Value->Prop} (h:P []) (us:List Value) (e:us.length=0):P us:=by
 cases us with
 |nil=>exact h
 |cons a l=>exact absurd e (Nat.succ_ne_zero _)
theorem us1 {P:List Value->Prop} (h:∀ a0,P [a0]):∀ us:List Value,us.length=1->P us:=usS (P:=fun l=>P (l)) (fun a0=>us0 (P:=fun l=>P (a0::l)) (h a0))
theorem us2 {P:List Value->Prop} (h:∀ a0 a1,P [a0,a1]):∀ us:List Value,us.length=2->P us:=usS (P:=fun l=>P (l)) (fun a0=>usS (P:=fun l=>P (a0::l)) (fun a1=>us0 (P:=fun l=>P (a0::a1::l)) (h a0 a1)))
theorem us3 {P:List Value->Prop} (h:∀ a0 a1 a2,P [a0,a1,a2]):∀ us:List Value,us.length=3->P us:=usS (P:=fun l=>P (l)) (fun a0=>usS (P:=fun l=>P (a0::l)) (fun a1=>usS (P:=fun l=>P (a0::a1::l)) (fun a2=>us0 (P:=fun l=>P (a0::a1::a2::l)) (h a0 a1 a2))))
theorem us4 {P:List Value->Prop} (h:∀ a0 a1 a2 a3,P [a0,a1,a2,a3]):∀ us:List Value,us.length=4->P us:=usS (P:=fun l=>P (l)) (fun a0=>usS (P:=fun l=>P (a0::l)) (fun a1=>usS (P:=fun l=>P (a0::a1::l)) (fun a2=>usS (P:=fun l=>P (a0::a1::a2::l)) (fun a3=>us0 (P:=fun l=>P (a0::a1::a2::a3::l)) (h a0 a1 a2 a3)))))
theorem us5 {P:List Value->Prop} (h:∀ a0 a1 a2 a3 a4,P [a0,a1,a2,a3,a4]):∀ us:List Value,us.length=5->P us:=usS (P:=fun l=>P (l)) (fun a0=>usS (P:=fun l=>P (a0::l)) (fun a1=>usS (P:=fun l=>P (a0::a1::l)) (fun a2=>usS (P:=fun l=>P (a0::a1::a2::l)) (fun a3=>usS (P:=fun l=>P (a0::a1::a2::a3::l)) (fun a4=>us0 (P:=fun l=>P (a0::a1::a2::a3::a4::l)) (h a0 a1 a2 a3 a4))))))
theorem p8 (T:Txt q.K q.mg C fI dT):Pn q C 8:=by
 obtain ⟨f,hm,hd⟩:=T.deal
 exact more (sp:=zjO) (M:=zeL) T (p7 T) (by decide) hm hd zho ⟨rfl,rfl,rfl,rfl,rfl,rfl,rfl,rfl⟩ zfy
  (fun ws G Q h=>by obtain ⟨a,b,ns,rfl,_⟩:=h;rfl) (fun ws G Q ⟨a,b,ns,e,h1,h2,h3,h4⟩=>by subst e;exact zmR rfl rfl h1 h2 h3 h4) (zhj) (fun _ _ _ _ _ _=>us2 fun _ _=>rfl) rfl
theorem p9 (T:Txt q.K q.mg C fI dT):Pn q C 9:=by
 obtain ⟨f,hm,hd⟩:=T.draw
 exact more (sp:=zjN) (M:=zeK) T (p8 T) (by decide) hm hd zhn ⟨rfl,rfl,rfl,rfl,rfl,rfl,rfl,rfl⟩ zfx
  (fun ws G Q h=>by obtain ⟨a,b,m,rfl,_⟩:=h;rfl) (fun ws G Q ⟨a,b,m,e,h1,h2,h3⟩=>by subst e;exact zmO rfl rfl h1 h2 h3) (zhi) (fun _ _ _ _ _ _=>us2 fun _ _=>rfl) rfl
theorem p10 (T:Txt q.K q.mg C fI dT):Pn q C 10:=by
 obtain ⟨f,hm,hd⟩:=T.saying
 exact zod (N:=10) (sp:=zaT) (M:=zdm) T (p9 T) (by decide) hm hd zfg (fun j=>⟨rfl,rfl,rfl,rfl,rfl,rfl,rfl,rfl⟩) zdW
  (fun ws G Q hh=>by
   obtain ⟨d,l,r,m,xs,_,_,_,_,_,_,h1,h2,_⟩:=hh
   omega) (fun j ws G Q h=>by obtain ⟨d,l,r,m,xs,rfl,_⟩:=h;rfl) (fun j ws G Q h=>ziY h) (fun j ws G Q Q' E k hh=>by
   obtain ⟨d,l,r,m,xs,h1,h2,h3,h4,h5,h6,h7,h8,h9,h⟩:=hh
   exact ⟨d,l,r,m,xs,h1,h2,h3,h4,h5,h6,h7,h8,h9,fun t G' a b c=>k _ _ (h t G' a b c)⟩) (fun _ _ _ _ _ _=>us3 fun _ _ _=>rfl) rfl
theorem p11 (T:Txt q.K q.mg C fI dT):Pn q C 11:=by
 obtain ⟨f,hm,hd⟩:=T.names
 exact more (sp:=ze8) (M:=zdP) T (p10 T) (by decide) hm hd zf9 ⟨rfl,rfl,rfl,rfl,rfl,rfl,rfl,rfl⟩ zen
  (fun ws G Q h=>by obtain ⟨d,l,m,rfl,_⟩:=h;rfl) (fun ws G Q h=>zkl (by decide) h) (fun ws G Q Q' E k hh=>by
   obtain ⟨d,l,m,h1,h2,h3,h4,h⟩:=hh
   exact ⟨d,l,m,h1,h2,h3,h4,fun r xs G' a b c d e f=>k _ _ (h r xs G' a b c d e f)⟩) (fun _ _ _ _ _ _=>us2 fun _ _=>rfl) rfl
theorem p12 (T:Txt q.K q.mg C fI dT):Pn q C 12:=by
 obtain ⟨f,hm,hd⟩:=T.parts
 exact zod (N:=21) (sp:=zaB) (M:=zb9) T (p11 T) (by decide) hm hd zdn (fun j=>⟨rfl,rfl,rfl,rfl,rfl,rfl,rfl,rfl⟩) zcY
  (fun ws G Q hh=>by
   obtain ⟨t,_,h1,_⟩:=hh
   have:=t.pos;omega) (fun j ws G Q h=>by obtain ⟨t,rfl,_⟩:=h;rfl) (fun j ws G Q h=>zke h) (fun j ws G Q Q' E k hh=>by
   obtain ⟨t,h1,h2,h3,h⟩:=hh
   exact ⟨t,h1,h2,h3,fun ts a b c=>(h ts a b c).mono k⟩) (fun _ _ _ _ _ _=>us1 fun _=>rfl) rfl
theorem p13 (T:Txt q.K q.mg C fI dT):Pn q C 13:=by
 obtain ⟨f,hm,hd⟩:=T.said
 exact more (sp:=zfX) (M:=ziy) T (p12 T) (by decide) hm hd zjX ⟨rfl,rfl,rfl,rfl,rfl,rfl,rfl,rfl⟩ zhE
  (fun ws G Q h=>by obtain ⟨t,x,rfl,_⟩:=h;rfl) (fun ws G Q h=>zlD h) (fun ws G Q Q' E k hh=>by
   obtain ⟨t,x,h1,h2,h⟩:=hh
   exact ⟨t,x,h1,h2,k _ _ h⟩) (fun _ _ _ _ _ _=>us1 fun _=>rfl) rfl
theorem p14 (T:Txt q.K q.mg C fI dT):Pn q C 14:=by
 obtain ⟨f,hm,hd⟩:=T.alike
 exact zod (N:=24) (sp:=zaP) (M:=zdR) T (p13 T) (by decide) hm hd zgb (fun j=>⟨rfl,rfl,rfl,rfl,rfl,rfl,rfl,rfl⟩) zep
  (fun ws G Q hh=>by
   obtain ⟨x,y,_,h1,_⟩:=hh
   rcases h1 with ⟨_,_,h1⟩ | ⟨_,_,_,_,_,_,_,_,h1,_⟩ <;> omega) (fun j ws G Q h=>by obtain ⟨x,y,rfl,_⟩:=h;rfl) (fun j ws G Q h=>zlh h) (fun j ws G Q Q' E k hh=>by
   obtain ⟨x,y,h1,h2,h⟩:=hh
   exact ⟨x,y,h1,h2,fun G' a=>k _ _ (h G' a)⟩) (fun _ _ _ _ _ _=>us2 fun _ _=>rfl) rfl
theorem p15 (T:Txt q.K q.mg C fI dT):Pn q C 15:=by
 obtain ⟨f,hm,hd⟩:=T.words
 exact more (sp:=zc7) (M:=zdM) T (p14 T) (by decide) hm hd zf6 ⟨rfl,rfl,rfl,rfl,rfl,rfl,rfl,rfl⟩ zek
  (fun ws G Q h=>by obtain ⟨t,rfl,_⟩:=h;rfl) (fun ws G Q h=>zjA h) (fun ws G Q Q' E k hh=>by
   obtain ⟨t,h1,h⟩:=hh
   exact ⟨t,h1,h.mono k⟩) (fun _ _ _ _ _ _=>us1 fun _=>rfl) rfl
theorem p16 (T:Txt q.K q.mg C fI dT):Pn q C 16:=by
 obtain ⟨f,hm,hd⟩:=T.told
 exact more (sp:=zb2) (M:=ziw) T (p15 T) (by decide) hm hd zjW ⟨rfl,rfl,rfl,rfl,rfl,rfl,rfl,rfl⟩ zhD
  (fun ws G Q h=>by obtain ⟨m,rfl,_⟩:=h;rfl) (fun ws G Q h=>zls (by decide) h) (fun ws G Q Q' E k hh=>by
   obtain ⟨m,h1,h2,h⟩:=hh
   exact ⟨m,h1,h2,k _ _ h⟩) (fun _ _ _ _ _ _=>us1 fun _=>rfl) rfl
theorem p17 (T:Txt q.K q.mg C fI dT):Pn q C 17:=by
 obtain ⟨f,hm,hd⟩:=T.once
 exact more (sp:=zif) (M:=zdl) T (p16 T) (by decide) hm hd zff ⟨rfl,rfl,rfl,rfl,rfl,rfl,rfl,rfl⟩ zdV
  (fun ws G Q h=>by obtain ⟨xs,rfl,_⟩:=h;rfl) (fun ws G Q h=>zl7 (by decide) h) (fun ws G Q Q' E k hh=>by
   obtain ⟨xs,h1,h2,h3,h⟩:=hh
   exact ⟨xs,h1,h2,h3,fun us a b c d=>(h us a b c d).mono k⟩) (fun _ _ _ _ _ _=>us1 fun _=>rfl) rfl
theorem p18 (T:Txt q.K q.mg C fI dT):Pn q C 18:=by
 obtain ⟨f,hm,hd⟩:=T.made
 exact more (sp:=zig) (M:=ziA) T (p17 T) (by decide) hm hd zjZ ⟨rfl,rfl,rfl,rfl,rfl,rfl,rfl,rfl⟩ zhF
  (fun ws G Q h=>by obtain ⟨m,r,rfl,_⟩:=h;rfl) (fun ws G Q h=>zmd (by decide) h) (fun ws G Q Q' E k hh=>by
   obtain ⟨m,r,h1,h2,h3,h⟩:=hh
   exact ⟨m,r,h1,h2,h3,k _ _ h⟩) (fun _ _ _ _ _ _=>us2 fun _ _=>rfl) rfl
theorem p19 (T:Txt q.K q.mg C fI dT):Pn q C 19:=by
 obtain ⟨f,hm,hd⟩:=T.lans
 exact more (sp:=zjP) (M:=zcW) T (p18 T) (by decide) hm hd zee ⟨rfl,rfl,rfl,rfl,rfl,rfl,rfl,rfl⟩ zdr
  (fun ws G Q h=>by obtain ⟨t,x,rfl,_⟩:=h;rfl) (fun ws G Q h=>zmp (by decide) h) (fun ws G Q Q' E k hh=>by
   obtain ⟨t,x,h1,h2,h3,h⟩:=hh
   exact ⟨t,x,h1,h2,h3,h.mono k⟩) (fun _ _ _ _ _ _=>us1 fun _=>rfl) rfl
theorem p20 (T:Txt q.K q.mg C fI dT):Pn q C 20:=by
 exact next (p19 T) (by decide) rfl fun A hr=>zoI T.tup
theorem p21 (T:Txt q.K q.mg C fI dT):Pn q C 21:=by
 obtain ⟨fd,F,_⟩:=T.hI.fd
 obtain ⟨o,t,m,l,hdt⟩:=T.dT
 have FO:=zfG (sp:=zfY C) (M:=zeN) F zhq (good T (p20 T)) ⟨rfl,rfl,rfl,rfl,rfl,rfl,rfl,rfl⟩ zfA (fun ws G Q ⟨p,x,e,_⟩=>by rw [e];rfl) (fun ws G Q h=>zmB h)
 have mono:∀ ws G (Q Q':Q3),(∀ w G',Q w G'->Q' w G')->zfY C ws G Q XN->zfY C ws G Q' XN:=fun ws G Q Q' k ⟨p,x,e,h1,h⟩=>⟨p,x,e,h1,k _ _ h⟩
 exact next (p20 T) (by decide) rfl fun A hr=>⟨zqS (dws:=[.str "last"]) (dvs:=[.str "last"]) (ds:=[.str "last" t]) T.mkC FO T.mgC (zk6 F l hdt fun _ _ _ _ _ _ us hl=>by
  have hl':us.length=5:=by simpa using hl
  clear hl
  revert us hl'
  refine us5 ?_
  exact fun _ _ _ _ _=>⟨_,rfl,rfl⟩) (fun H=>⟨_,_,rfl,rfl,rfl⟩) (.cons ⟨_,rfl⟩ .nil) mono (hr.mono (by decide)),
  fun ws G Q Q' E z h p hp=>mono _ _ _ _ (fun w G' y=>⟨y.1,z _ _ y.2⟩) (h p hp)⟩
theorem p22 (T:Txt q.K q.mg C fI dT):Pn q C 22:=by
 obtain ⟨f,hm,hd⟩:=T.lbook
 exact more (sp:=ze9 C) (M:=zeM) T (p21 T) (by decide) hm hd zhp ⟨rfl,rfl,rfl,rfl,rfl,rfl,rfl,rfl⟩ zfz
  (fun ws G Q h=>by obtain ⟨d,l,rfl,_⟩:=h;rfl) (fun ws G Q h=>zky (by decide) h) (fun ws G Q Q' E k hh=>by
   obtain ⟨d,l,h1,h2,h⟩:=hh
   exact ⟨d,l,h1,h2,fun p x G' a b c d e f=>k _ _ (h p x G' a b c d e f)⟩) (fun _ _ _ _ _ _=>us1 fun _=>rfl) rfl
theorem p23 (T:Txt q.K q.mg C fI dT):Pn q C 23:=by
 obtain ⟨f,hm,hd⟩:=T.join
 exact more (sp:=zet) (M:=zko) T (p22 T) (by decide) hm hd zlB ⟨rfl,rfl,rfl,rfl,rfl,rfl,rfl,rfl⟩ zjg
  (fun ws G Q h=>by obtain ⟨a,b,rfl,_⟩:=h;rfl) (fun ws G Q h=>zms (by decide) h) (fun ws G Q Q' E k hh=>by
   obtain ⟨a,b,h1,h2,h3,h4,h5,h⟩:=hh
   exact ⟨a,b,h1,h2,h3,h4,h5,fun G' a=>k _ _ (h G' a)⟩) (fun _ _ _ _ _ _=>us2 fun _ _=>rfl) rfl
theorem p24 (T:Txt q.K q.mg C fI dT):Pn q C 24:=by
 obtain ⟨f,hm,hd⟩:=T.lstart
 exact more (sp:=ze6) (M:=zdN) T (p23 T) (by decide) hm hd zf7 ⟨rfl,rfl,rfl,rfl,rfl,rfl,rfl,rfl⟩ zel
  (fun ws G Q h=>by obtain ⟨t,rfl,_⟩:=h;rfl) (fun ws G Q h=>zje h) (fun ws G Q Q' E k hh=>by
   obtain ⟨t,h1,h⟩:=hh
   exact ⟨t,h1,k _ _ h⟩) (fun _ _ _ _ _ _=>us1 fun _=>rfl) rfl
theorem p25 (T:Txt q.K q.mg C fI dT):Pn q C 25:=by
 obtain ⟨f,hm,hd⟩:=T.some_
 exact more (sp:=zic) (M:=zeI) T (p24 T) (by decide) hm hd zhl ⟨rfl,rfl,rfl,rfl,rfl,rfl,rfl,rfl⟩ zfv
  (fun ws G Q h=>by obtain ⟨d,l,v,xs,rfl,_⟩:=h;rfl) (fun ws G Q h=>zly (by decide) h) (fun ws G Q Q' E k hh=>by
   obtain ⟨d,l,v,xs,h1,h2,h3,h4,h⟩:=hh
   exact ⟨d,l,v,xs,h1,h2,h3,h4,fun ys G' a b c d e f=>k _ _ (h ys G' a b c d e f)⟩) (fun _ _ _ _ _ _=>us2 fun _ _=>rfl) rfl
theorem p26 (T:Txt q.K q.mg C fI dT):Pn q C 26:=by
 obtain ⟨f,hm,hd⟩:=T.stand
 exact more (sp:=zce C) (M:=zcs) T (p25 T) (by decide) hm hd zdE ⟨rfl,rfl,rfl,rfl,rfl,rfl,rfl,rfl⟩ zdf
  (fun ws G Q h=>by obtain ⟨d,l,b,x,t,rfl,_⟩:=h;rfl) (fun ws G Q h=>zfW (by decide) h) (fun ws G Q Q' E k hh=>by
   obtain ⟨d,l,b,x,t,h1,h2,h3,h4,h5,h⟩:=hh
   exact ⟨d,l,b,x,t,h1,h2,h3,h4,h5,fun z G' a b c d=>k _ _ (h z G' a b c d)⟩) (fun _ _ _ _ _ _=>us3 fun _ _ _=>rfl) rfl
theorem p27 (T:Txt q.K q.mg C fI dT):Pn q C 27:=by
 obtain ⟨f,hm,hd⟩:=T.says
 exact more (sp:=zb2) (M:=zeJ) T (p26 T) (by decide) hm hd zhm ⟨rfl,rfl,rfl,rfl,rfl,rfl,rfl,rfl⟩ zfw
  (fun ws G Q h=>by obtain ⟨m,rfl,_⟩:=h;rfl) (fun ws G Q h=>zlC h) (fun ws G Q Q' E k hh=>by
   obtain ⟨m,h1,h2,h⟩:=hh
   exact ⟨m,h1,h2,k _ _ h⟩) (fun _ _ _ _ _ _=>us1 fun _=>rfl) rfl
theorem p28 (T:Txt q.K q.mg C fI dT):Pn q C 28:=by
 obtain ⟨f,hm,hd⟩:=T.lmoves
 exact more (sp:=spMv C) (M:=zdQ) T (p27 T) (by decide) hm hd zga ⟨rfl,rfl,rfl,rfl,rfl,rfl,rfl,rfl⟩ zeo
  (fun ws G Q h=>by obtain ⟨b,x,z,rfl,_⟩:=h;rfl) (fun ws G Q h=>zjh (by decide) h) (fun ws G Q Q' E k hh=>by
   obtain ⟨b,x,z,h1,h2,h3,h4,h⟩:=hh
   exact ⟨b,x,z,h1,h2,h3,h4,h.mono k⟩) (fun _ _ _ _ _ _=>us2 fun _ _=>rfl) rfl
theorem p29 (T:Txt q.K q.mg C fI dT):Pn q C 29:=by
 obtain ⟨f,hm,hd⟩:=T.heard
 exact more (sp:=zfa) (M:=zgE) T (p28 T) (by decide) hm hd ziX ⟨rfl,rfl,rfl,rfl,rfl,rfl,rfl,rfl⟩ zgK
  (fun ws G Q h=>by obtain ⟨m,r,rfl,_⟩:=h;rfl) (fun ws G Q h=>zkK (by decide) h) (fun ws G Q Q' E k hh=>by
   obtain ⟨m,r,h1,h2,h3,h⟩:=hh
   exact ⟨m,r,h1,h2,h3,k _ _ h⟩) (fun _ _ _ _ _ _=>us2 fun _ _=>rfl) rfl
theorem p30 (T:Txt q.K q.mg C fI dT):Pn q C 30:=by
 obtain ⟨f,hm,hd⟩:=T.open_
 exact more (sp:=zie C) (M:=zdL) T (p29 T) (by decide) hm hd zf5 ⟨rfl,rfl,rfl,rfl,rfl,rfl,rfl,rfl⟩ zej
  (fun ws G Q h=>by obtain ⟨b,x,op,m,mk,rfl,_⟩:=h;rfl) (fun ws G Q h=>zl6 (by decide) h) (fun ws G Q Q' E k hh=>by
   obtain ⟨b,x,op,m,mk,h1,h2,h3,h4,h5,h6,h⟩:=hh
   exact ⟨b,x,op,m,mk,h1,h2,h3,h4,h5,h6,fun G' a=>k _ _ (h G' a)⟩) (fun _ _ _ _ _ _=>us4 fun _ _ _ _=>rfl) rfl
theorem p31 (T:Txt q.K q.mg C fI dT):Pn q C 31:=by
 obtain ⟨f,hm,hd⟩:=T.used
 exact more (sp:=zib C) (M:=zdK) T (p30 T) (by decide) hm hd zf4 ⟨rfl,rfl,rfl,rfl,rfl,rfl,rfl,rfl⟩ zei
  (fun ws G Q h=>by obtain ⟨b,x,us,m,rfl,_⟩:=h;rfl) (fun ws G Q h=>zlm (by decide) h) (fun ws G Q Q' E k hh=>by
   obtain ⟨b,x,us,m,h1,h2,h3,h4,h⟩:=hh
   exact ⟨b,x,us,m,h1,h2,h3,h4,fun G' a=>k _ _ (h G' a)⟩) (fun _ _ _ _ _ _=>us3 fun _ _ _=>rfl) rfl
theorem p32 (T:Txt q.K q.mg C fI dT):Pn q C 32:=by
 obtain ⟨f,hm,hd⟩:=T.after
 exact more (sp:=zb3 C) (M:=zng) T (p31 T) (by decide) hm hd znL ⟨rfl,rfl,rfl,rfl,rfl,rfl,rfl,rfl⟩ zkt
  (fun ws G Q h=>by obtain ⟨b,x,z,m,r,rfl,_⟩:=h;rfl) (fun ws G Q h=>zli (by decide) h) (fun ws G Q Q' E k hh=>by
   obtain ⟨b,x,z,m,r,h1,h2,h3,h4,h5,h6,h7,h⟩:=hh
   exact ⟨b,x,z,m,r,h1,h2,h3,h4,h5,h6,h7,fun G' a=>k _ _ (h G' a)⟩) (fun _ _ _ _ _ _=>us4 fun _ _ _ _=>rfl) rfl
theorem p33 (T:Txt q.K q.mg C fI dT):Pn q C 33:=by
 obtain ⟨f,hm,hd⟩:=T.lrepl
 exact more (sp:=zid) (M:=zcV) T (p32 T) (by decide) hm hd zed ⟨rfl,rfl,rfl,rfl,rfl,rfl,rfl,rfl⟩ zdq
  (fun ws G Q h=>by obtain ⟨m,rfl,_⟩:=h;rfl) (fun ws G Q h=>zkr (by decide) h) (fun ws G Q Q' E k hh=>by
   obtain ⟨m,h1,h2,h⟩:=hh
   exact ⟨m,h1,h2,h.mono k⟩) (fun _ _ _ _ _ _=>us1 fun _=>rfl) rfl
theorem p34 (T:Txt q.K q.mg C fI dT):Pn q C 34:=by
 obtain ⟨f,hm,hd⟩:=T.lafter
 exact more (sp:=zb3 C) (M:=zdS) T (p33 T) (by decide) hm hd zgc ⟨rfl,rfl,rfl,rfl,rfl,rfl,rfl,rfl⟩ zeq
  (fun ws G Q h=>by obtain ⟨b,x,z,m,r,rfl,_⟩:=h;rfl) (fun ws G Q h=>zji (by decide) h) (fun ws G Q Q' E k hh=>by
   obtain ⟨b,x,z,m,r,h1,h2,h3,h4,h5,h6,h7,h⟩:=hh
   exact ⟨b,x,z,m,r,h1,h2,h3,h4,h5,h6,h7,fun G' a=>k _ _ (h G' a)⟩) (fun _ _ _ _ _ _=>us4 fun _ _ _ _=>rfl) rfl
theorem p35 (T:Txt q.K q.mg C fI dT):Pn q C 35:=by
 obtain ⟨f,hm,hd⟩:=T.right
 exact more (sp:=ze7 C) (M:=zdO) T (p34 T) (by decide) hm hd zf8 ⟨rfl,rfl,rfl,rfl,rfl,rfl,rfl,rfl⟩ zem
  (fun ws G Q h=>by obtain ⟨b,x,z,rfl,_⟩:=h;rfl) (fun ws G Q h=>zj3 (by decide) h) (fun ws G Q Q' E k hh=>by
   obtain ⟨b,x,z,h1,h2,h3,h4,h5,h⟩:=hh
   exact ⟨b,x,z,h1,h2,h3,h4,h5,fun G' a=>k _ _ (h G' a)⟩) (fun _ _ _ _ _ _=>us2 fun _ _=>rfl) rfl
theorem zqq {P:Program} {w:World} {K:Frg} {mg:Str->Option Value} (T:Txt K mg C fI dT) {f:Addr} (hd:HD K "law" "law" slaw .none f):∃ fd:FuncData,(∀ (s:Shared) (u:Value),BindsTo s fd ⟨[u],[]⟩ [("_law_script", u)])/\∀ base:Heap,FnOk P w K mg base CX0 135 f fd ["_law_script"] (zdp K ziV):=by
 obtain ⟨fd,F,kV,doc,pm,an,cdv,ct,e⟩:=hd.fd
 refine ⟨fd,fun s u=>by subst e;exact .of_eq rfl,fun base=>zfG (q:=⟨P,w,K,mg,base⟩) (k:=134) (sp:=ziV) (M:=mlaw) F sclaw (good (q:=⟨P,w,K,mg,base⟩) T (p35 T)) ⟨rfl,rfl,rfl,rfl,rfl,rfl,rfl,rfl⟩ zof (fun ws G Q h=>by obtain ⟨a,ns,rfl,_⟩:=h;rfl) fun ws G Q h=>?_⟩
 obtain ⟨a,ns,rfl,hs,hl,h⟩:=h
 exact zoj hs hl h
end
end K23
set_option Elab.async false
set_option linter.all false
set_option maxRecDepth 100000
set_option maxHeartbeats 8000000
namespace K23
open PySem PySem.Spec PyProof.Rows L2 L3
open PySem.W (nsIn keepIn codeIn mg_of findIn mg_none_of fnOf)
theorem all_mk {l:PySem.W.OpenLaw} {w:World} {K:Frg} {h:Heap} {mg:Str->Option Value} {fa C fI dT f1 f2 f3 f4 f5 f6 f7 f8 f9 f10 f11 f12 f13 f14 f15 f16 f17 f18 f19 f20 f21 f22 f23 f24 f25 f26 f27:Addr} (X:K.In h) (G:h.Ns mainGlobals mg) (hfa:mg "law" = some (.ref fa))
  {od1 an1 od2 an2 od3 an3 od4 an4 od5 an5 od6 an6 od7 an7 od8 an8 od9 an9 od10 an10 od11 an11 od12 an12 od13 an13 od14 an14 od15 an15 od16 an16 od17 an17 od18 an18 od19 an19 od20 an20 od21 an21 od22 an22 od23 an23 od24 an24 od25 an25 od26 an26 od27 an27 odI anI oD:Option Addr} {sl1 sl2 sl3 sl4 sl5 sl6 sl7 sl8 sl9 sl10 sl11 sl12 sl13 sl14 sl15 sl16 sl17 sl18 sl19 sl20 sl21 sl22 sl23 sl24 sl25 sl26 sl27 slI sD:Array (Option Value)} {oc1 kV1 dc1 pm1 cd1 ct1 oc2 kV2 dc2 pm2 cd2 ct2 oc3 kV3 dc3 pm3 cd3 ct3 oc4 kV4 dc4 pm4 cd4 ct4 oc5 kV5 dc5 pm5 cd5 ct5 oc6 kV6 dc6 pm6 cd6 ct6 oc7 kV7 dc7 pm7 cd7 ct7 oc8 kV8 dc8 pm8 cd8 ct8 oc9 kV9 dc9 pm9 cd9 ct9 oc10 kV10 dc10 pm10 cd10 ct10 oc11 kV11 dc11 pm11 cd11 ct11 oc12 kV12 dc12 pm12 cd12 ct12 oc13 kV13 dc13 pm13 cd13 ct13 oc14 kV14 dc14 pm14 cd14 ct14 oc15 kV15 dc15 pm15 cd15 ct15 oc16 kV16 dc16 pm16 cd16 ct16 oc17 kV17 dc17 pm17 cd17 ct17 oc18 kV18 dc18 pm18 cd18 ct18 oc19 kV19 dc19 pm19 cd19 ct19 oc20 kV20 dc20 pm20 cd20 ct20 oc21 kV21 dc21 pm21 cd21 ct21 oc22 kV22 dc22 pm22 cd22 ct22 oc23 kV23 dc23 pm23 cd23 ct23 oc24 kV24 dc24 pm24 cd24 ct24 oc25 kV25 dc25 pm25 cd25 ct25 oc26 kV26 dc26 pm26 cd26 ct26 oc27 kV27 dc27 pm27 cd27 ct27 ocI kVI dcI pmI cdI ctI cD:Value} {tD:Tok} {nD:Nat}
  (a1:nsIn K mainGlobals "_law_deal" = some (some (.ref f1))) (l1:K.lookup f1=some ⟨oc1,od1,.func (fnOf "_law_deal" "_law_deal" (zak zbg) (zae zbg) (zaa zbg) .none kV1 dc1 pm1 an1 cd1 ct1),sl1⟩) (c1:codeIn K cd1 "_law_deal" = true) (k1:keepIn K (.ref f1)=true)
  (a2:nsIn K mainGlobals "_law_draw" = some (some (.ref f2))) (l2:K.lookup f2=some ⟨oc2,od2,.func (fnOf "_law_draw" "_law_draw" (zak zbf) (zae zbf) (zaa zbf) .none kV2 dc2 pm2 an2 cd2 ct2),sl2⟩) (c2:codeIn K cd2 "_law_draw" = true) (k2:keepIn K (.ref f2)=true)
  (a3:nsIn K mainGlobals "_law_saying" = some (some (.ref f3))) (l3:K.lookup f3=some ⟨oc3,od3,.func (fnOf "_law_saying" "_law_saying" (zak zaQ) (zae zaQ) (zaa zaQ) .none kV3 dc3 pm3 an3 cd3 ct3),sl3⟩) (c3:codeIn K cd3 "_law_saying" = true) (k3:keepIn K (.ref f3)=true)
  (a4:nsIn K mainGlobals "_law_names" = some (some (.ref f4))) (l4:K.lookup f4=some ⟨oc4,od4,.func (fnOf "_law_names" "_law_names" (zak za0) (zae za0) (zaa za0) .none kV4 dc4 pm4 an4 cd4 ct4),sl4⟩) (c4:codeIn K cd4 "_law_names" = true) (k4:keepIn K (.ref f4)=true)
  (a5:nsIn K mainGlobals "_law_all_parts" = some (some (.ref f5))) (l5:K.lookup f5=some ⟨oc5,od5,.func (fnOf "_law_all_parts" "_law_all_parts" (zak zaw) (zae zaw) (zaa zaw) .none kV5 dc5 pm5 an5 cd5 ct5),sl5⟩) (c5:codeIn K cd5 "_law_all_parts" = true) (k5:keepIn K (.ref f5)=true)
  (a6:nsIn K mainGlobals "said_by" = some (some (.ref f6))) (l6:K.lookup f6=some ⟨oc6,od6,.func (fnOf "said_by" "said_by" (zak zbG) (zae zbG) (zaa zbG) .none kV6 dc6 pm6 an6 cd6 ct6),sl6⟩) (c6:codeIn K cd6 "said_by" = true) (k6:keepIn K (.ref f6)=true)
  (a7:nsIn K mainGlobals "_law_alike" = some (some (.ref f7))) (l7:K.lookup f7=some ⟨oc7,od7,.func (fnOf "_law_alike" "_law_alike" (zak za2) (zae za2) (zaa za2) .none kV7 dc7 pm7 an7 cd7 ct7),sl7⟩) (c7:codeIn K cd7 "_law_alike" = true) (k7:keepIn K (.ref f7)=true)
  (a8:nsIn K mainGlobals "_law_words" = some (some (.ref f8))) (l8:K.lookup f8=some ⟨oc8,od8,.func (fnOf "_law_words" "_law_words" (zak zaX) (zae zaX) (zaa zaX) .none kV8 dc8 pm8 an8 cd8 ct8),sl8⟩) (c8:codeIn K cd8 "_law_words" = true) (k8:keepIn K (.ref f8)=true)
  (a9:nsIn K mainGlobals "told_by" = some (some (.ref f9))) (l9:K.lookup f9=some ⟨oc9,od9,.func (fnOf "told_by" "told_by" (zak zbE) (zae zbE) (zaa zbE) .none kV9 dc9 pm9 an9 cd9 ct9),sl9⟩) (c9:codeIn K cd9 "told_by" = true) (k9:keepIn K (.ref f9)=true)
  (a10:nsIn K mainGlobals "sorted_once" = some (some (.ref f10))) (l10:K.lookup f10=some ⟨oc10,od10,.func (fnOf "sorted_once" "sorted_once" (zak zaO) (zae zaO) (zaa zaO) .none kV10 dc10 pm10 an10 cd10 ct10),sl10⟩) (c10:codeIn K cd10 "sorted_once" = true) (k10:keepIn K (.ref f10)=true)
  (a11:nsIn K mainGlobals "made_by" = some (some (.ref f11))) (l11:K.lookup f11=some ⟨oc11,od11,.func (fnOf "made_by" "made_by" (zak zbH) (zae zbH) (zaa zbH) .none kV11 dc11 pm11 an11 cd11 ct11),sl11⟩) (c11:codeIn K cd11 "made_by" = true) (k11:keepIn K (.ref f11)=true)
  (a12:nsIn K mainGlobals "_law_answers" = some (some (.ref f12))) (l12:K.lookup f12=some ⟨oc12,od12,.func (fnOf "_law_answers" "_law_answers" (zak zaF) (zae zaF) (zaa zaF) .none kV12 dc12 pm12 an12 cd12 ct12),sl12⟩) (c12:codeIn K cd12 "_law_answers" = true) (k12:keepIn K (.ref f12)=true)
  (a13:nsIn K mainGlobals "_law_book" = some (some (.ref f13))) (l13:K.lookup f13=some ⟨oc13,od13,.func (fnOf "_law_book" "_law_book" (zak zbh) (zae zbh) (zaa zbh) .none kV13 dc13 pm13 an13 cd13 ct13),sl13⟩) (c13:codeIn K cd13 "_law_book" = true) (k13:keepIn K (.ref f13)=true)
  (a14:nsIn K mainGlobals "joined" = some (some (.ref f14))) (l14:K.lookup f14=some ⟨oc14,od14,.func (fnOf "joined" "joined" (zak zcv) (zae zcv) (zaa zcv) .none kV14 dc14 pm14 an14 cd14 ct14),sl14⟩) (c14:codeIn K cd14 "joined" = true) (k14:keepIn K (.ref f14)=true)
  (a15:nsIn K mainGlobals "_law_start" = some (some (.ref f15))) (l15:K.lookup f15=some ⟨oc15,od15,.func (fnOf "_law_start" "_law_start" (zak zaY) (zae zaY) (zaa zaY) .none kV15 dc15 pm15 an15 cd15 ct15),sl15⟩) (c15:codeIn K cd15 "_law_start" = true) (k15:keepIn K (.ref f15)=true)
  (a16:nsIn K mainGlobals "_law_some" = some (some (.ref f16))) (l16:K.lookup f16=some ⟨oc16,od16,.func (fnOf "_law_some" "_law_some" (zak zbd) (zae zbd) (zaa zbd) .none kV16 dc16 pm16 an16 cd16 ct16),sl16⟩) (c16:codeIn K cd16 "_law_some" = true) (k16:keepIn K (.ref f16)=true)
  (a17:nsIn K mainGlobals "_law_standing" = some (some (.ref f17))) (l17:K.lookup f17=some ⟨oc17,od17,.func (fnOf "_law_standing" "_law_standing" (zak zay) (zae zay) (zaa zay) .none kV17 dc17 pm17 an17 cd17 ct17),sl17⟩) (c17:codeIn K cd17 "_law_standing" = true) (k17:keepIn K (.ref f17)=true)
  (a18:nsIn K mainGlobals "_law_says" = some (some (.ref f18))) (l18:K.lookup f18=some ⟨oc18,od18,.func (fnOf "_law_says" "_law_says" (zak zbe) (zae zbe) (zaa zbe) .none kV18 dc18 pm18 an18 cd18 ct18),sl18⟩) (c18:codeIn K cd18 "_law_says" = true) (k18:keepIn K (.ref f18)=true)
  (a19:nsIn K mainGlobals "_law_moves" = some (some (.ref f19))) (l19:K.lookup f19=some ⟨oc19,od19,.func (fnOf "_law_moves" "_law_moves" (zak za1) (zae za1) (zaa za1) .none kV19 dc19 pm19 an19 cd19 ct19),sl19⟩) (c19:codeIn K cd19 "_law_moves" = true) (k19:keepIn K (.ref f19)=true)
  (a20:nsIn K mainGlobals "heard_by" = some (some (.ref f20))) (l20:K.lookup f20=some ⟨oc20,od20,.func (fnOf "heard_by" "heard_by" (zak zbp) (zae zbp) (zaa zbp) .none kV20 dc20 pm20 an20 cd20 ct20),sl20⟩) (c20:codeIn K cd20 "heard_by" = true) (k20:keepIn K (.ref f20)=true)
  (a21:nsIn K mainGlobals "open_after" = some (some (.ref f21))) (l21:K.lookup f21=some ⟨oc21,od21,.func (fnOf "open_after" "open_after" (zak zaW) (zae zaW) (zaa zaW) .none kV21 dc21 pm21 an21 cd21 ct21),sl21⟩) (c21:codeIn K cd21 "open_after" = true) (k21:keepIn K (.ref f21)=true)
  (a22:nsIn K mainGlobals "used_after" = some (some (.ref f22))) (l22:K.lookup f22=some ⟨oc22,od22,.func (fnOf "used_after" "used_after" (zak zaV) (zae zaV) (zaa zaV) .none kV22 dc22 pm22 an22 cd22 ct22),sl22⟩) (c22:codeIn K cd22 "used_after" = true) (k22:keepIn K (.ref f22)=true)
  (a23:nsIn K mainGlobals "after" = some (some (.ref f23))) (l23:K.lookup f23=some ⟨oc23,od23,.func (fnOf "after" "after" (zak zdF) (zae zdF) (zaa zdF) .none kV23 dc23 pm23 an23 cd23 ct23),sl23⟩) (c23:codeIn K cd23 "after" = true) (k23:keepIn K (.ref f23)=true)
  (a24:nsIn K mainGlobals "_law_replies" = some (some (.ref f24))) (l24:K.lookup f24=some ⟨oc24,od24,.func (fnOf "_law_replies" "_law_replies" (zak zaE) (zae zaE) (zaa zaE) .none kV24 dc24 pm24 an24 cd24 ct24),sl24⟩) (c24:codeIn K cd24 "_law_replies" = true) (k24:keepIn K (.ref f24)=true)
  (a25:nsIn K mainGlobals "_law_after" = some (some (.ref f25))) (l25:K.lookup f25=some ⟨oc25,od25,.func (fnOf "_law_after" "_law_after" (zak za3) (zae za3) (zaa za3) .none kV25 dc25 pm25 an25 cd25 ct25),sl25⟩) (c25:codeIn K cd25 "_law_after" = true) (k25:keepIn K (.ref f25)=true)
  (a26:nsIn K mainGlobals "_law_right" = some (some (.ref f26))) (l26:K.lookup f26=some ⟨oc26,od26,.func (fnOf "_law_right" "_law_right" (zak zaZ) (zae zaZ) (zaa zaZ) .none kV26 dc26 pm26 an26 cd26 ct26),sl26⟩) (c26:codeIn K cd26 "_law_right" = true) (k26:keepIn K (.ref f26)=true)
  (a27:nsIn K mainGlobals "law" = some (some (.ref f27))) (l27:K.lookup f27=some ⟨oc27,od27,.func (fnOf "law" "law" (zak slaw) (zae slaw) (zaa slaw) .none kV27 dc27 pm27 an27 cd27 ct27),sl27⟩) (c27:codeIn K cd27 "law" = true) (k27:keepIn K (.ref f27)=true)
  (z0:nsIn K mainGlobals "max" = some none)
  (z1:nsIn K mainGlobals "len" = some none)
  (z2:nsIn K mainGlobals "all" = some none)
  (z3:nsIn K mainGlobals "list" = some none)
  (z4:nsIn K mainGlobals "isinstance" = some none)
  (z5:nsIn K mainGlobals "sorted" = some none)
  (z6:nsIn K mainGlobals "int" = some none)
  (z7:nsIn K mainGlobals "range" = some none)
  (z8:nsIn K mainGlobals "reversed" = some none)
  (z9:nsIn K mainGlobals "zip" = some none)
  (z10:nsIn K mainGlobals "str" = some none)
  (z11:nsIn K mainGlobals "tuple" = some none)
  (aC:nsIn K mainGlobals "Book" = some (some (.ref C))) (aI:findIn K (.ref C) "__init__" = some (some (.ref fI))) (iI:PySem.W.isFn K (.ref fI)=true)
  (lI:K.lookup fI=some ⟨ocI,odI,.func (fnOf "__init__" "Book.__init__" (zak zbi) (zae zbi) (zaa zbi) (.ref dT) kVI dcI pmI anI cdI ctI),slI⟩) (cI:codeIn K cdI "Book.__init__" = true) (kI:keepIn K (.ref fI)=true)
  (lD:K.lookup dT=some ⟨cD,oD,.seq #[.str "last" tD] nD,sD⟩)
  (pg:PySem.W.plainGet K C Str.empty=true) (hdi:PySem.W.hasDictIn K C=true) (po:PySem.W.plainOver K C=true) (sa:findIn K (.ref C) "__setattr__" = some (some (.builtin "object.__setattr__"))) (mk:PySem.W.makesIn K C=true) (kC:keepIn K (.ref C)=true)
  (n1:findIn K (.ref C) "answers" = some none) (n2:findIn K (.ref C) "again" = some none) (n3:findIn K (.ref C) "doubts" = some none) (n4:findIn K (.ref C) "speaks" = some none) (n5:findIn K (.ref C) "other" = some none) :
  ∃ fd:FuncData,(∀ (s:Shared) (u:Value),BindsTo s fd ⟨[u],[]⟩ [("_law_script", u)])/\∀ base:Heap,K.In base->base.Ns mainGlobals mg->FnOk l.prog w K mg base CX0 135 fa fd ["_law_script"] (zdp K ziV):=by
 have e:=hfa.symm.trans (mg_of X G a27)
 cases e
 have T:Txt K mg C fI dT:={
  cl:=⟨pg,hdi,po,sa⟩
  nf:=(zai n1 (zai n2 (zai n3 (zai n4 (zai n5 zbk)))))
  mgC:=mg_of X G aC
  mkC:=⟨mk,aI,iI,kC⟩
  hI:=HD.mk' lI cI kI
  dT:=⟨_,tD,nD,lD,rfl⟩
  deal:=⟨f1,mg_of X G a1,HD.mk' l1 c1 k1⟩
  draw:=⟨f2,mg_of X G a2,HD.mk' l2 c2 k2⟩
  saying:=⟨f3,mg_of X G a3,HD.mk' l3 c3 k3⟩
  names:=⟨f4,mg_of X G a4,HD.mk' l4 c4 k4⟩
  parts:=⟨f5,mg_of X G a5,HD.mk' l5 c5 k5⟩
  said:=⟨f6,mg_of X G a6,HD.mk' l6 c6 k6⟩
  alike:=⟨f7,mg_of X G a7,HD.mk' l7 c7 k7⟩
  words:=⟨f8,mg_of X G a8,HD.mk' l8 c8 k8⟩
  told:=⟨f9,mg_of X G a9,HD.mk' l9 c9 k9⟩
  once:=⟨f10,mg_of X G a10,HD.mk' l10 c10 k10⟩
  made:=⟨f11,mg_of X G a11,HD.mk' l11 c11 k11⟩
  lans:=⟨f12,mg_of X G a12,HD.mk' l12 c12 k12⟩
  lbook:=⟨f13,mg_of X G a13,HD.mk' l13 c13 k13⟩
  join:=⟨f14,mg_of X G a14,HD.mk' l14 c14 k14⟩
  lstart:=⟨f15,mg_of X G a15,HD.mk' l15 c15 k15⟩
  some_:=⟨f16,mg_of X G a16,HD.mk' l16 c16 k16⟩
  stand:=⟨f17,mg_of X G a17,HD.mk' l17 c17 k17⟩
  says:=⟨f18,mg_of X G a18,HD.mk' l18 c18 k18⟩
  lmoves:=⟨f19,mg_of X G a19,HD.mk' l19 c19 k19⟩
  heard:=⟨f20,mg_of X G a20,HD.mk' l20 c20 k20⟩
  open_:=⟨f21,mg_of X G a21,HD.mk' l21 c21 k21⟩
  used:=⟨f22,mg_of X G a22,HD.mk' l22 c22 k22⟩
  after:=⟨f23,mg_of X G a23,HD.mk' l23 c23 k23⟩
  lrepl:=⟨f24,mg_of X G a24,HD.mk' l24 c24 k24⟩
  lafter:=⟨f25,mg_of X G a25,HD.mk' l25 c25 k25⟩
  right:=⟨f26,mg_of X G a26,HD.mk' l26 c26 k26⟩
  max:=mg_none_of X G z0
  len:=mg_none_of X G z1
  all:=mg_none_of X G z2
  list:=mg_none_of X G z3
  isi:=mg_none_of X G z4
  srt:=mg_none_of X G z5
  int:=mg_none_of X G z6
  range:=mg_none_of X G z7
  rev:=mg_none_of X G z8
  zip:=mg_none_of X G z9
  str:=mg_none_of X G z10
  tup:=mg_none_of X G z11 }
 obtain ⟨fd,hb,hF⟩:=zqq (P:=l.prog) (w:=w) T (HD.mk' l27 c27 k27)
 exact ⟨fd,hb,fun base _ _=>hF base⟩
end K23
namespace PySem.W.Fast
def tw7075266651857659809:=0
def tw10728953972404831436:=0
def tw6974201910297694070:=0
def tw3822282069053215545:=0
def tw15515107525996210027:=0
def tw11673655231094683266:=0
def tw8136896822829389087:=0
def tw10934347574526937580:=0
def tw8271908639562152068:=0
def tw16309998218618278839:=0
def tw10860630137827794052:=0
def tw5397844828715990930:=0
def tw16718095445031647921:=0
def tw4148208969339554721:=0
def tw13424411144338129126:=0
def tw10110149019769731280:=0
def tw10159179217850949357:=0
def tw16161735356288775532:=0
def tw10504850414932605621:=0
def tw5752326968328403050:=0
def tw163292413569949963:=0
def tw13922978077728287854:=0
def tw17735504349939668675:=0
def tw8389654195267730927:=0
def tw11892190201888415250:=0
def tw15843086037950189166:=0
def tw13271641737443691803:=0
def tw10126315406339993857:=0
def tw5126925883584704862:=0
def tw8040275517696431734:=0
def tw16128847326445395649:=0
def tw1747578940811328762:=0
def tw17543281460339704316:=0
def tw15917677231127756292:=0
def tw5019285334223079564:=0
def tw5887218554988930251:=0
def tw6641644980721473540:=0
def tw7523701434539674667:=0
def tw16049397403741250018:=0
def tw17158303714960206015:=0
def tw17068753948676075930:=0
def tw17987223849690224423:=0
def tw18339610981621180186:=0
def tw1208512734346165519:=0
def tw3810120687664986846:=0
def tw7320588041499774775:=0
def tw12611275031987546901:=0
def tw15966164465925032451:=0
def tw143366363445385561:=0
def tw8096360273643007424:=0
def tw8701522036235878461:=0
def tw15668732377618998493:=0
def tw17905322256100117322:=0
def tw16473641147998986905:=0
def tw7568066897352792343:=0
def tw8201670330483198720:=0
def tw3887655522345003509:=0
def tw9257599326779646933:=0
def tw8904704536439394393:=0
def tw15182802801218115742:=0
def tw12571879504380110036:=0
def tw3072264223482803916:=0
def tw2783822657161964796:=0
def tw9968205481216034609:=0
def tw16582405390787009290:=0
def tw8511798668820404203:=0
def tw10931905431439756630:=0
def tw1932070436299777182:=0
def tw3772282556652884888:=0
def tw5524224456290512241:=0
def tw4038618035717371100:=0
def tw2054533307651644814:=0
def tw13774096388467191863:=0
def tw18114027329029239925:=0
def tw10557334391912594865:=0
def tw7594987649186492946:=0
def tw2844375864339596105:=0
def tw6337081051251675535:=0
def tw16332274511807631298:=0
def tw13326908881085234936:=0
def tw5818392523067926263:=0
def tw5811949028581497303:=0
def tw6106574369698682343:=0
def tw12466742144217725996:=0
def tw9811398524864209359:=0
def tw5711144370132023652:=0
def tw11484559729806265660:=0
def tw7852606630448393234:=0
def tw9764807093512212521:=0
def tw14376699291882934853:=0
def tw17447978609702637413:=0
def tw3696121519799969983:=0
def tw3167509931349131201:=0
def tw9467001450152673193:=0
def tw9413587960357596606:=0
def tw10132880061576347663:=0
def tw15463239109057520054:=0
def tw7265411606446462731:=0
def tw3817308670853111810:=0
def tw5574439539233793856:=0
def tw8313931809004664822:=0
def tw72933970804406172:=0
def tw17624153893813137301:=0
def tw5160847726758889855:=0
def tw9105824284957119689:=0
def tw7338601019148479290:=0
def tw9994440658539957518:=0
def tw16201452565642818756:=0
def tw5812276475136484193:=0
def tw18158432578659358284:=0
def tw10369637492973473046:=0
def tw5834684595355340090:=0
def tw527156917582287094:=0
def tw14637521453307670658:=0
def tw7244298307182674890:=0
def tw14247206445306336514:=0
def tw3350219496799452255:=0
def tw7262657262929867593:=0
def tw5866118152074673086:=0
def tw12270933879795740734:=0
def tw7489411923180226021:=0
def tw4872265891490566222:=0
def tw2662012869504081877:=0
def tw11409728602938128370:=0
def tw640528264548091203:=0
def tw4930622604012454065:=0
def tw10866795050397093394:=0
def tw1581573013487035442:=0
def tw13616804842320387128:=0
def tw778398017413975020:=0
def tw9585412394679976265:=0
def tw10139425251377822615:=0
def tw4005050741458057954:=0
def tw2392029445714884816:=0
def tw17069022275199709580:=0
def tw7348703167639769094:=0
def tw3306398864443420648:=0
def tw13034816116599540275:=0
def tw4730499165122273864:=0
def tw7932106282186464987:=0
def tw11146172702054105606:=0
def tw2760623790966889902:=0
def tw5225023762063370865:=0
def tw9709811134720865466:=0
def tw11166913768573101041:=0
def tw16259379802742879923:=0
def tw226739550907629595:=0
def tw7841434483998756145:=0
def tw4703322854659696676:=0
def tw937027756173251893:=0
def tw13404059706570479568:=0
def tw8558155500795281199:=0
def tw11593669335114025924:=0
def tw15519094082917088943:=0
def tw12597872744779852256:=0
def tw11183139110333191451:=0
def tw16293675932653415133:=0
def tw16252371435215300253:=0
def tw11800169914406129471:=0
def tw16363375174943258776:=0
def tw10091537604487592829:=0
def tw9157134260316099367:=0
def tw2788397734391049478:=0
def tw7948208304822096701:=0
def tw644162534451796011:=0
def tw14287624667060591159:=0
def tw12225453501662678027:=0
def tw16767709715578631596:=0
def tw14695481498148554600:=0
def tw2058637678072801130:=0
def tw2735373000082008569:=0
def tw6813366644339795828:=0
def tw4134903198745568781:=0
def tw17052507936673249989:=0
def tw7033544324093890935:=0
def tw3980116169123924672:=0
def tw804572479521787369:=0
def tw86599509143899609:=0
def tw13812337227949320100:=0
def tw7487398011863640287:=0
def tw17520321403835157491:=0
def tw2833141498223655547:=0
end PySem.W.Fast
open PySem PySem.W PyProof.Rows
set_option maxRecDepth 100000 in
set_option maxHeartbeats 0 in
theorem PySem.Challenge.cw_talkcourt_k23_after_holds : PySem.Challenge.rw_talkcourt_k23_after.Holds := by
 w_on;o_law;k_head;(case hw=>w_witness2)
 k_fill
 refine L3.walk3 (l:=PySem.Challenge.rw_talkcourt_k23_after) (k:=135) rfl rfl ⟨rfl,by decide,by decide⟩ (fun w h Y=>PySem.W.kIn_of Y) ?F
 case F =>
  intro w mg fa h KX G hmg
  refine' K23.all_mk KX G hmg ?a1 ?l1 ?c1 ?k1 ?a2 ?l2 ?c2 ?k2 ?a3 ?l3 ?c3 ?k3 ?a4 ?l4 ?c4 ?k4 ?a5 ?l5 ?c5 ?k5 ?a6 ?l6 ?c6 ?k6 ?a7 ?l7 ?c7 ?k7 ?a8 ?l8 ?c8 ?k8 ?a9 ?l9 ?c9 ?k9 ?a10 ?l10 ?c10 ?k10 ?a11 ?l11 ?c11 ?k11 ?a12 ?l12 ?c12 ?k12 ?a13 ?l13 ?c13 ?k13 ?a14 ?l14 ?c14 ?k14 ?a15 ?l15 ?c15 ?k15 ?a16 ?l16 ?c16 ?k16 ?a17 ?l17 ?c17 ?k17 ?a18 ?l18 ?c18 ?k18 ?a19 ?l19 ?c19 ?k19 ?a20 ?l20 ?c20 ?k20 ?a21 ?l21 ?c21 ?k21 ?a22 ?l22 ?c22 ?k22 ?a23 ?l23 ?c23 ?k23 ?a24 ?l24 ?c24 ?k24 ?a25 ?l25 ?c25 ?k25 ?a26 ?l26 ?c26 ?k26 ?a27 ?l27 ?c27 ?k27 ?z0 ?z1 ?z2 ?z3 ?z4 ?z5 ?z6 ?z7 ?z8 ?z9 ?z10 ?z11 ?aC ?aI ?iI ?lI ?cI ?kI ?lD ?pg ?hdi ?po ?sa ?mk ?kC ?n1 ?n2 ?n3 ?n4 ?n5
  case a1 | l1 | c1 | k1 | a2 | l2 | c2 | k2 | a3 | l3 | c3 | k3 | a4 | l4 | c4 | k4 | a5 | l5 | c5 | k5 | a6 | l6 | c6 | k6 | a7 | l7 | c7 | k7 | a8 | l8 | c8 | k8 | a9 | l9 | c9 | k9 | a10 | l10 | c10 | k10 | a11 | l11 | c11 | k11 | a12 | l12 | c12 | k12 | a13 | l13 | c13 | k13 | a14 | l14 | c14 | k14 | a15 | l15 | c15 | k15 | a16 | l16 | c16 | k16 | a17 | l17 | c17 | k17 | a18 | l18 | c18 | k18 | a19 | l19 | c19 | k19 | a20 | l20 | c20 | k20 | a21 | l21 | c21 | k21 | a22 | l22 | c22 | k22 | a23 | l23 | c23 | k23 | a24 | l24 | c24 | k24 | a25 | l25 | c25 | k25 | a26 | l26 | c26 | k26 | a27 | l27 | c27 | k27 | z0 | z1 | z2 | z3 | z4 | z5 | z6 | z7 | z8 | z9 | z10 | z11 | aC | aI | iI | lI | cI | kI | lD | pg | hdi | po | sa | mk | kC | n1 | n2 | n3 | n4 | n5=>k_is
