import PyProof.Rows.All
import Wide.All
import OpenK.AllK
import Wide.FinOn
import PyProof.EqAt
import PyProof.EqKinds
import PyProof.TupleCall
import PyProof.CompFree
import Lean
import KE.KItemsList
import KE.KSortTup
import PyProof.ZipIter
import PySem.Challenge.RW_signforms_k13_lists_told
set_option tactic.hygienic false
set_option genInjectivity false
set_option Elab.async false
set_option linter.all false
set_option maxRecDepth 100000
set_option genSizeOf false
set_option maxHeartbeats 4000000
theorem zz {G:Prop} (h:∀ P:Prop,(G→P)→P):G:=h G id
set_option tactic.hygienic false
set_option genInjectivity false
set_option Elab.async false
set_option linter.all false
set_option maxRecDepth 100000
namespace L2
open PySem PySem.Spec PyProof.Rows
noncomputable abbrev Key:=Sum Int Str
noncomputable def keyIs:Key→Value→Bool
 | .inl k,v=>Value.isInt k v
 | .inr x,v=>Value.isStrOf x v
noncomputable def keyH (w:World):Key→Int
 | .inl k=>hashInt k
 | .inr x=>hashStr w x
theorem br:∀ {k:Key} {v:Value},keyIs k v=true→(∃ i t,k=Sum.inl i∧v=Value.int i t)∨(∃ x t,k=Sum.inr x∧v=Value.str x t)
 | .inl i,v,h=>by
  obtain ⟨t,e⟩:=Value.isInt_shape (k:=i) (v:=v) h
  exact .inl ⟨i,t,rfl,e⟩
 | .inr x,v,h=>by
  obtain ⟨t,e⟩:=Value.isStrOf_shape (x:=x) (v:=v) h
  exact .inr ⟨x,t,rfl,e⟩
theorem keyIs_int (i:Int) (t:Tok):keyIs (.inl i) (.int i t)=true:=by simp [keyIs,Value.isInt]
theorem keyIs_str (x:Str) (t:Tok):keyIs (.inr x) (.str x t)=true:=by simp [keyIs,Value.isStrOf]
theorem key_ll (a b:Int):decide ((Sum.inl a:Key)=Sum.inl b)=(a == b):=by
 by_cases e:a=b
 ·subst e; simp
 ·have h:¬ (Sum.inl a:Key)=Sum.inl b:=fun q=>e (Sum.inl.inj q)
  rw [decide_eq_false h]
  exact (beq_eq_false_iff_ne.mpr e).symm
theorem key_rr (a b:Str):decide ((Sum.inr a:Key)=Sum.inr b)=decide (a=b):=by
 by_cases e:a=b
 ·subst e; simp
 ·have h:¬ (Sum.inr a:Key)=Sum.inr b:=fun q=>e (Sum.inr.inj q)
  rw [decide_eq_false h,decide_eq_false e]
theorem key_lr (a:Int) (b:Str):decide ((Sum.inl a:Key)=Sum.inr b)=false:=decide_eq_false (fun q=>nomatch q)
theorem key_rl (a:Str) (b:Int):decide ((Sum.inr a:Key)=Sum.inl b)=false:=decide_eq_false (fun q=>nomatch q)
noncomputable def bp (prog:Program) (w:World):PySem.KeyKind prog w Key where
 is:=keyIs
 hash:=keyH w
 inj:=fun v a b ha hb=>by
  rcases br ha with ⟨i,t,rfl,rfl⟩ | ⟨x,t,rfl,rfl⟩
  ·rcases br hb with ⟨j,u,rfl,e⟩ | ⟨y,u,rfl,e⟩
   ·injection e with e1 _; rw [e1]
   ·exact nomatch e
  ·rcases br hb with ⟨j,u,rfl,e⟩ | ⟨y,u,rfl,e⟩
   ·exact nomatch e
   ·injection e with e1 _; rw [e1]
 byValue:=fun k v h=>by
  rcases br h with ⟨i,t,rfl,rfl⟩ | ⟨x,t,rfl,rfl⟩ <;> rfl
 pyHash:=fun hv h=>by
  rcases br hv with ⟨i,t,rfl,rfl⟩ | ⟨x,t,rfl,rfl⟩
  ·exact wpAny_pyHash_int h
  ·exact wpAny_pyHash_str h
 eqBool:=fun hu hv h=>by
  rcases br hu with ⟨i,t,rfl,rfl⟩ | ⟨x,t,rfl,rfl⟩
  ·rcases br hv with ⟨j,u,rfl,rfl⟩ | ⟨y,u,rfl,rfl⟩
   ·rw [key_ll] at h; exact wpAny_eqBool_int h
   ·rw [key_lr] at h; exact SeqAt.EqAt.int_str i t y u _ _ _ _ h
  ·rcases br hv with ⟨j,u,rfl,rfl⟩ | ⟨y,u,rfl,rfl⟩
   ·rw [key_rl] at h; exact SeqAt.EqAt.str_int x t j u _ _ _ _ h
   ·rw [key_rr] at h; exact wpAny_eqBool_str h
 «strs» := fun k x t v h=>by
  rcases br h with ⟨i,u,rfl,e⟩ | ⟨y,u,rfl,e⟩
  ·exact nomatch e
  ·injection e with e1 _
   subst e1
   cases v <;> rfl
theorem mixKind_int (prog:Program) (w:World) (i:Int) (t:Tok):(bp prog w).is (.inl i) (.int i t)=true:=keyIs_int i t
theorem mixKind_str (prog:Program) (w:World) (x:Str) (t:Tok):(bp prog w).is (.inr x) (.str x t)=true:=keyIs_str x t
end L2
namespace L2
open PySem PySem.Spec PyProof.Rows
set_option genInjectivity true in
inductive V where
 | non | bl (b:Bool) | int (i:Int) | str (x:Str) | byt (b:Array UInt8) | flt (b:UInt64) | ref (a:Addr) | ty (n:String)
 deriving DecidableEq
noncomputable def RelV:V→Value→Prop
 | .non,u=>u=Value.none
 | .bl b,u=>u=Value.bool b
 | .int i,u=>∃ t,u=Value.int i t
 | .str x,u=>∃ t,u=Value.str x t
 | .byt b,u=>∃ t,u=Value.bytes b t
 | .flt b,u=>∃ t,u=Value.float b t
 | .ref a,u=>u=Value.ref a
 | .ty n,u=>u=Value.type n
noncomputable abbrev Vals:List V→List Value→Prop:=Paired RelV
theorem Vals.length {xs:List V} {us:List Value} (r:Vals xs us):xs.length=us.length:=Paired.length r
theorem Vals.get:∀ {xs:List V} {us:List Value} {i:Nat} {x:V},Vals xs us→xs[i]?=some x→∃ u,us[i]?=some u∧RelV x u:=by
 intro xs us i x h
 induction h generalizing i with
 | nil=>exact fun e=>nomatch List.getElem?_nil.symm.trans e
 | cons r t ih =>
  intro e
  cases i with
  | zero=>exact ⟨_,rfl,Option.some.inj e ▸ r⟩
  | succ i=>exact ih e
theorem Vals.append:∀ {xs ys:List V} {us ws:List Value},Vals xs us→Vals ys ws→Vals (xs++ys) (us++ws):=by
 intro xs ys us ws h s
 induction h with
 | nil=>exact s
 | cons r t ih=>exact .cons r ih
theorem Vals.take:∀ {xs:List V} {us:List Value} (n:Nat),Vals xs us→Vals (xs.take n) (us.take n):=by
 intro xs us n h
 induction h generalizing n with
 | nil=>rw [List.take_nil,List.take_nil]; exact .nil
 | cons r t ih =>
  cases n with
  | zero=>exact .nil
  | succ n=>exact .cons r (ih n)
theorem Vals.drop:∀ {xs:List V} {us:List Value} (n:Nat),Vals xs us→Vals (xs.drop n) (us.drop n):=by
 intro xs us n h
 induction h generalizing n with
 | nil=>rw [List.drop_nil,List.drop_nil]; exact .nil
 | cons r t ih =>
  cases n with
  | zero=>exact .cons r t
  | succ n=>exact ih n
noncomputable def RelO:Option V→Option Value→Prop
 | some v,some u=>RelV v u
 | none,none=>True
 | _,_=>False
noncomputable def KV {κ:Type}:List (κ × V)→List (κ × Value)→Prop:=Paired fun (p:κ × V) (q:κ × Value)=>p.1=q.1∧RelV p.2 q.2
noncomputable def kV:Key→V
 | .inl i=>.int i
 | .inr x=>.str x
set_option genInjectivity true in
inductive HO where
  | lst (xs:List V)
  | tup (xs:List V)
  | dK (kvs:List (Key × V)) | dT (kvs:List (List Key × V))
  | set (S:Int→Bool) (n:Nat)
  | ins (C dx:Addr) (fs:List (Str × V))
  | own (x:Addr)
  | xd (fs:List (Str × V))
  | met (f x:Addr)
  | rng (lo hi:Int)
  | frz (o:Obj) (u:HO)
  | tbl (ps:Array Value)
  | ext (φ:Heap→Prop)
noncomputable abbrev Hp:=Addr→Option HO
noncomputable def upd (H:Hp) (a:Addr) (o:HO):Hp:=fun b=>if b=a then some o else H b
theorem ao {H:Hp} {a:Addr} {o:HO}:upd H a o a=some o:=by unfold upd; rw [if_pos rfl]
theorem aj {H:Hp} {a b:Addr} {o:HO} (h:b≠a):upd H a o b=H b:=by unfold upd; rw [if_neg h]
theorem ne_of {H:Hp} {a b:Addr} {o u:HO} (h:H a=some o) (h':H b=some u) (d:o≠u):a≠b:=by
 intro e; subst e; rw [h] at h'; exact d (Option.some.inj h')
theorem bq {H:Hp} {a b:Addr} {o:HO} (h:H a=some o) (h':H b=none):a≠b:=by
 intro e; subst e; rw [h] at h'; injection h'
inductive OLst (h:Heap) (a:Addr) (xs:List V):Prop
 | mk (z : xs.length ≤ sizeLine) (its : List Value) (n : Nat) (r : Vals xs its) (e : h.get? a = some { cls := .type "list", data := .seq its.toArray n })
inductive OTup (h:Heap) (a:Addr) (xs:List V):Prop
 | mk (z:xs.length≤sizeLine) (its:List Value) (r:Vals xs its) (e:IsTup h a its.toArray)
inductive ODic (P:Program) (w:World) (h:Heap) (a:Addr) (kvs:List (Key × V)):Prop
 | mk (z:kvs.length≤sizeLine) (y:(a == sysModules)=false) (vs:List (Key × Value)) (r:KV kvs vs) (e:h.DictOf (bp P w) a vs)
inductive OIns (H:Hp) (h:Heap) (a C dx:Addr) (fs:List (Str × V)):Prop
 | mk (d:H dx=some (.own a)) (z:fs.length≤1000) (ne:dx≠a) (e:h.get? a=some (PySem.W.instObj C dx)) (mA:Str→Option Value) (n:h.Ns1 dx mA) (r:∀ f,RelO (fs.lookup f) (mA f)) (wi:PySem.Within mA (fs.map (·.1)))
section
variable (P:Program) (w:World)
noncomputable def ce (H:Hp) (h:Heap) (a:Addr):HO→Prop
 | .lst xs=>OLst h a xs
 | .tup xs=>OTup h a xs
 | .dK kvs=>ODic P w h a kvs
 | .dT kvs=>kvs.length≤sizeLine∧(a == sysModules)=false∧∃ xs:List (List Key × Addr × Value),
   Paired (fun (p:List Key × V) (q:List Key × Addr × Value)=>p.1=q.1∧H q.2.1=some (.tup (p.1.map kV))∧RelV p.2 q.2.2) kvs xs ∧
   ∃ o es ep,h.get? a=some o∧o.ExactDict∧o.data=.dict es ep∧es.toList=xs.map (entryOfKey (tupleKind (bp P w)))∧(xs.map (·.1)).Nodup
 | .set S n=>h.SetOf (intKind P w) a S n
 | .ins C dx fs=>OIns H h a C dx fs
 | .own _=>∃ o,h.get? a=some o
 | .xd fs=>∃ mA,h.Ns1 a mA∧∀ f,RelO (fs.lookup f) (mA f)
 | .rng lo hi => ∃ t u v, h.get? a = some { cls := .type "range", data := .fields #[.int lo t, .int hi u, .int 1 v] }
 | .frz o u=>h.get? a=some o∧ce H h a u
 | .tbl ps=>h.get? a=some { cls:=.none,data:=.fields ps }
 | .met f x=>h.get? a=some (PySem.W.methodObj (.ref f) (.ref x))
 | .ext φ=>φ h∧(∃ o,h.get? a=some o)∧∀ h1 h2:Heap,φ h1→(∀ o,h1.get? a=some o→h2.get? a=some o)→φ h2
noncomputable def HOk (H:Hp) (h:Heap):Prop:=∀ a o,H a=some o→ce P w H h a o
end
section
variable {P:Program} {w:World} {H H':Hp} {h h':Heap} {a:Addr} {o:HO}
theorem ce.lt (x:ce P w H h a o):a < h.objs.size:=by
 cases o with
 | lst xs=>obtain ⟨_,_,_,_,e⟩:=x; exact Heap.lt_size e
 | tup xs=>obtain ⟨_,_,_,p⟩:=x; exact p.lt
 | dK kvs=>obtain ⟨_,_,_,_,o,_,_,e,_⟩:=x; exact Heap.lt_size e
 | dT kvs=>obtain ⟨_,_,_,_,o,_,_,e,_⟩:=x; exact Heap.lt_size e
 | set S n=>obtain ⟨o,_,_,_,e,_⟩:=x; exact Heap.lt_size e
 | ins C dx fs=>obtain ⟨_,_,_,e,_⟩:=x; exact Heap.lt_size e
 | own y=>obtain ⟨_,e⟩:=x; exact Heap.lt_size e
 | xd fs=>obtain ⟨_,⟨_,_,_,e,_⟩,_⟩:=x; exact Heap.lt_size e
 | rng lo hi=>obtain ⟨_,_,_,e⟩:=x; exact Heap.lt_size e
 | frz ob u=>obtain ⟨e,_⟩:=x; exact Heap.lt_size e
 | tbl ps=>exact Heap.lt_size (show h.get? a=some _ from x)
 | met f y=>exact Heap.lt_size (show h.get? a=some _ from x)
 | ext φ=>obtain ⟨_,⟨_,e⟩,_⟩:=x; exact Heap.lt_size e
theorem Paired.mapP {α β:Type} {F G:α→β→Prop}:∀ {l₁:List α} {l₂:List β},Paired F l₁ l₂→(∀ a b,F a b→G a b)→Paired G l₁ l₂:=by
 intro l₁ l₂ h f
 induction h with
 | nil=>exact .nil
 | cons r t ih=>exact .cons (f _ _ r) ih
theorem ce.stay (x:ce P w H h a o) (k:∀ b u,(b=a∨H b=some (.own a))→h.get? b=some u→h'.get? b=some u)
  (ho:∀ b,H b=some (.own a)→H' b=some (.own a)) (ht:∀ b xs,H b=some (.tup xs)→H' b=some (.tup xs)):ce P w H' h' a o:=by
 induction o with
 | lst xs=>obtain ⟨z,its,n,r,e⟩:=x; exact ⟨z,its,n,r,k _ _ (.inl rfl) e⟩
 | tup xs=>obtain ⟨z,its,r,ob,e,c⟩:=x; exact ⟨z,its,r,ob,k _ _ (.inl rfl) e,c⟩
 | dK kvs=>obtain ⟨z,y,vs,r,ob,es,ep,e,c⟩:=x; exact ⟨z,y,vs,r,ob,es,ep,k _ _ (.inl rfl) e,c⟩
 | dT kvs =>
  obtain ⟨z,y,xs,r,ob,es,ep,e,c⟩:=x
  exact ⟨z,y,xs,Paired.mapP r fun p q z=>⟨z.1,ht _ _ z.2.1,z.2.2⟩,ob,es,ep,k _ _ (.inl rfl) e,c⟩
 | set S n=>obtain ⟨ob,es,ep,t,e,c⟩:=x; exact ⟨ob,es,ep,t,k _ _ (.inl rfl) e,c⟩
 | ins C dx fs =>
  obtain ⟨d,z,ne,e,mA,⟨od,es,ep,e2,c⟩,r,wi⟩:=x
  exact ⟨ho _ d,z,ne,k _ _ (.inl rfl) e,mA,⟨od,es,ep,k _ _ (.inr d) e2,c⟩,r,wi⟩
 | own y=>obtain ⟨ob,e⟩:=x; exact ⟨ob,k _ _ (.inl rfl) e⟩
 | xd fs=>obtain ⟨mA,⟨od,es,ep,e,c⟩,r⟩:=x; exact ⟨mA,⟨od,es,ep,k _ _ (.inl rfl) e,c⟩,r⟩
 | rng lo hi=>obtain ⟨t,u,v,e⟩:=x; exact ⟨t,u,v,k _ _ (.inl rfl) e⟩
 | frz ob u ih=>obtain ⟨e,q⟩:=x; exact ⟨k _ _ (.inl rfl) e,ih q⟩
 | tbl ps =>
  have e:h.get? a=some { cls:=.none,data:=.fields ps }:=x
  show h'.get? a=some { cls:=.none,data:=.fields ps }
  exact k a _ (.inl rfl) e
 | met f y =>
  have e:h.get? a=some (PySem.W.methodObj (.ref f) (.ref y)):=x
  show h'.get? a=some (PySem.W.methodObj (.ref f) (.ref y))
  exact k a _ (.inl rfl) e
 | ext φ=>obtain ⟨p,⟨o,e⟩,st⟩:=x; exact ⟨st _ _ p fun o q=>k _ _ (.inl rfl) q,⟨o,k _ _ (.inl rfl) e⟩,st⟩
theorem HOk.lt (x:HOk P w H h) (e:H a=some o):a < h.objs.size:=(x a o e).lt
theorem HOk.fresh (x:HOk P w H h) (e:h.objs.size≤a):H a=none:=by
 cases q:H a with
 | none=>rfl
 | some u=>exact absurd (Nat.lt_of_lt_of_le (x.lt q) e) (Nat.lt_irrefl _)
theorem HOk.kept (x:HOk P w H h) (k:∀ b u,h.get? b=some u→h'.get? b=some u):HOk P w H h':=fun a o e =>
 (x a o e).stay (fun b u _ q=>k b u q) (fun _ q=>q) fun _ _ q=>q
theorem HOk.laid (x:HOk P w H h) (k:∀ b u,h.get? b=some u→h'.get? b=some u) (hp:h.objs.size≤a) (new:ce P w (upd H a o) h' a o):HOk P w (upd H a o) h':=fun b u e=>by
 have hn:=x.fresh hp
 by_cases hb:b=a
 ·subst hb; rw [ao] at e; (injection e with e; subst e); exact new
 ·rw [aj hb] at e
  exact (x b u e).stay (fun c v _ q=>k c v q) (fun c q=>by rw [aj (bq q hn)]; exact q) fun c xs q=>by rw [aj (bq q hn)]; exact q
end
noncomputable def Rd (H:Hp) (a:Addr) (u:HO):Prop:=H a=some u∨∃ o,H a=some (.frz o u)
theorem Rd.ok {P:Program} {w:World} {H:Hp} {h:Heap} {a:Addr} {u:HO} (r:Rd H a u) (x:HOk P w H h):ce P w H h a u:=by
 rcases r with r | ⟨o,r⟩
 ·exact x a u r
 ·obtain ⟨_,q⟩:=x a _ r
  exact q
noncomputable def Mut:Option HO→Prop
 | some (.lst _)=>True
 | some (.dK _)=>True
 | some (.dT _)=>True
 | some (.set _ _)=>True
 | some (.ins _ _ _)=>True
 | some (.ext _)=>True
 | _=>False
section
variable {P:Program} {w:World} {H:Hp} {h h':Heap} {x e:Addr} {o':HO}
theorem HOk.write (ok:HOk P w H h) (mu:Mut (H x)) (he:e=x∨H e=some (.own x)) (k:∀ b u,b≠e→h.get? b=some u→h'.get? b=some u) (heo:∃ u,h'.get? e=some u)
  (new:ce P w (upd H x o') h' x o'):HOk P w (upd H x o') h':=fun b u q=>by
 have nown:∀ c y,H c=some (.own y)→c≠x:=fun c y r z=>by subst z; rw [r] at mu; exact mu
 have ntup:∀ c xs,H c=some (.tup xs)→c≠x:=fun c xs r z=>by subst z; rw [r] at mu; exact mu
 by_cases hb:b=x
 ·subst hb; rw [ao] at q; (injection q with q; subst q); exact new
 ·rw [aj hb] at q
  by_cases hbe:b=e
  ·have q':H b=some (.own x):=by
    rcases he with z | z
    ·exact absurd (hbe.trans z) hb
    ·rw [hbe]; exact z
   rw [q] at q'; (injection q' with q'; subst q')
   obtain ⟨v,hv⟩:=heo
   exact ⟨v,by rw [hbe]; exact hv⟩
  ·refine (ok b u q).stay (fun c v hc r=>k c v ?_ r) (fun c r=>by rw [aj (nown c b r)]; exact r) fun c xs r=>by rw [aj (ntup c xs r)]; exact r
   rcases hc with rfl | hc
   ·exact hbe
   ·rintro rfl
    rcases he with z | z
    ·exact nown c b hc z
    ·rw [hc] at z; (injection z with z; injection z with z; subst z); exact hb rfl
end
structure Un (fs ex:List Addr) (H H':Hp) (h h':Heap):Prop where
 keep:∀ b o,h.get? b=some o→H b=none→b∉fs→b∉ex→h'.get? b=some o
 slot:∀ b o,h.get? b=some o→H b=none→b∈fs→b∉ex→∃ sl,h'.get? b=some { o with slots:=sl }
 free:∀ b o,h.get? b=some o→H b=none→b∉ex→H' b=none
 there:∀ b o,h.get? b=some o→b∉ex→∃ o',h'.get? b=some o'
 tups:∀ b xs,H b=some (.tup xs)→H' b=some (.tup xs)
 frzs:∀ b o u,H b=some (.frz o u)→H' b=some (.frz o u)
 tbls:∀ b ps,H b=some (.tbl ps)→∃ more,H' b=some (.tbl (ps++more))
section
variable {fs fs' ex ex':List Addr} {H H1 H2:Hp} {h h1 h2 h':Heap} {a x e:Addr} {o:HO}
theorem Un.any (u:Un fs ex H H1 h h1) {b:Addr} {ob:Obj} (q:h.get? b=some ob) (n:H b=none) (hx:b∉ex):∃ sl,h1.get? b=some { ob with slots:=sl }:=by
 by_cases hb:b∈fs
 ·exact u.slot b ob q n hb hx
 ·exact ⟨ob.slots,u.keep b ob q n hb hx⟩
theorem Un.kept (k:∀ b u,h.get? b=some u→h'.get? b=some u):Un fs ex H H h h' :=
 ⟨fun b ob q _ _ _=>k b ob q,fun b ob q _ _ _=>⟨ob.slots,k b ob q⟩,fun _ _ _ n _=>n,fun b ob q _=>⟨ob,k b ob q⟩,fun _ _ q=>q,fun _ _ _ q=>q,fun _ ps q=>⟨#[],by rw [q]; simp⟩⟩
theorem Un.refl:Un fs ex H H h h:=Un.kept fun _ _ q=>q
theorem Un.laid (k:∀ b u,h.get? b=some u→h'.get? b=some u) (hp:h.objs.size≤a) (hn:H a=none):Un fs ex H (upd H a o) h h' where
 keep:=fun b u q _ _ _=>k b u q
 slot:=fun b u q _ _ _=>⟨u.slots,k b u q⟩
 free:=fun b u q n _=>by rw [aj (Nat.ne_of_lt (Nat.lt_of_lt_of_le (Heap.lt_size q) hp))]; exact n
 there:=fun b u q _=>⟨u,k b u q⟩
 tups:=fun b xs q=>by rw [aj (bq q hn)]; exact q
 frzs:=fun b u xs q=>by rw [aj (bq q hn)]; exact q
 tbls:=fun b ps q=>⟨#[],by rw [aj (bq q hn),q]; simp⟩
theorem Un.write (mu:Mut (H x)) (he:e=x∨H e=some (.own x)) (k:∀ b u,b≠e→h.get? b=some u→h'.get? b=some u) (heo:∃ u,h'.get? e=some u):Un fs ex H (upd H x o) h h':=by
 have hx:∀ b,H b=none→b≠x:=fun b n z=>by subst z; rw [n] at mu; exact mu
 have hb:∀ b,H b=none→b≠e:=fun b n z=>by
  subst z
  rcases he with r | r
  ·exact hx b n r
  ·rw [n] at r; injection r
 have hm:∀ b u,H b=some u→¬ Mut (some u)→b≠x:=fun b u q nm z=>by subst z; rw [q] at mu; exact nm mu
 refine ⟨fun b u q n _ _=>k b u (hb b n) q,fun b u q n _ _=>⟨u.slots,k b u (hb b n) q⟩,fun b u q n _=>by rw [aj (hx b n)]; exact n,fun b u q _=>?_,
  fun b xs q=>by rw [aj (hm b _ q fun z=>z)]; exact q,fun b u xs q=>by rw [aj (hm b _ q fun z=>z)]; exact q,fun b ps q=>⟨#[],by rw [aj (hm b _ q fun z=>z),q]; simp⟩⟩
 by_cases hbe:b=e
 ·subst hbe; exact heo
 ·exact ⟨u,k b u hbe q⟩
end
noncomputable def trk (h:Heap) (H:Hp):List Addr:=(List.range h.objs.size).filter fun a=>(H a).isSome
noncomputable def hidT (h:Heap) (H:Hp):Heap:=PySem.W.hideAll h (trk h H)
theorem hidT_size (h:Heap) (H:Hp):(hidT h H).objs.size=h.objs.size:=PySem.W.hideAll_size _ _
theorem hidT_get {h:Heap} {H:Hp} {b:Addr} {o:Obj} (e:h.get? b=some o) (n:H b=none):(hidT h H).get? b=some o :=
 PySem.W.hideAll_get _ e fun hm=>by
  have q:(H b).isSome=true:=(List.mem_filter.mp hm).2
  rw [n] at q; simp at q
theorem of_hidT {h:Heap} {H:Hp} {b:Addr} {o:Obj} (e:(hidT h H).get? b=some o):h.get? b=some o∧H b=none:=by
 have e':h.get? b=some o:=PySem.W.of_hideAll (trk h H) e
 refine ⟨e', ?_⟩
 cases q:H b with
 | none=>rfl
 | some x =>
  have hm:b∈trk h H:=List.mem_filter.mpr ⟨List.mem_range.mpr (Heap.lt_size e'),by simp [q]⟩
  have z:(hidT h H).get? b=none:=PySem.W.hideAll_none (trk h H) hm
  rw [z] at e; injection e
noncomputable def iO (g h:Heap) (L:Addr):List (Addr × Obj):=(List.range h.objs.size).filterMap fun a=>if a=L∨(g.get? a).isSome=true then none else (h.get? a).map fun o=>(a,o)
theorem dO {g h:Heap} {L a:Addr} {o:Obj} (h1:a≠L) (h2:g.get? a=none) (h3:h.get? a=some o):(a,o)∈iO g h L :=
 List.mem_filterMap.mpr ⟨a,List.mem_range.mpr (Heap.lt_size h3),by simp [h1,h2,h3]⟩
theorem iX {g h:Heap} {L:Addr} {p:Addr × Obj} (hp:p∈iO g h L):p.1≠L∧g.get? p.1=none∧h.get? p.1=some p.2:=by
 obtain ⟨b,_,e⟩:=List.mem_filterMap.mp hp
 split at e
 ·injection e
 ·rename_i hn
  cases q:h.get? b with
  | none=>rw [q] at e; simp at e
  | some u =>
   rw [q] at e
   simp only [Option.map_some,Option.some.injEq] at e
   subst e
   refine ⟨fun z=>hn (.inl z), ?_,q⟩
   show g.get? b=none
   cases r:g.get? b with
   | none=>rfl
   | some v=>exact (hn (.inr (by simp [r]))).elim
theorem jV {g h:Heap} {L:Addr}:News g L h (iO g h L):=fun p hp=>let ⟨a,b,c⟩:=iX hp; ⟨c,a,b⟩
end L2
namespace L2
open PySem PySem.Spec PyProof.Rows
structure Mod (K:PySem.W.Frag) (mg:Str→Option Value) (base:Heap):Prop where
 kin:K.In base
 glob:base.Ns mainGlobals mg
 blt : ∃ mb, base.Ns builtinsNs mb ∧ ∀ x : Str, x ≠ "__name__" → mb x = bootBuiltins x
 nolimit:base.NoLimit
structure Cx where
 prog:Program
 w:World
 K:PySem.W.Frag
 mg:Str→Option Value
 base:Heap
 A:Around
 N:List Str
 s₀:Shared
 H₀:Hp
 env:Env
 outer:List Env
 stack:List Env
 ex:List Addr
 fn:Str→Bool
 calm:Bool
 pn:List (Addr × Obj)
 xe:Value→Shared→Prop
noncomputable def frs (l:List Env):List Addr:=l.filterMap (·.frame)
noncomputable abbrev Cx.fs (X:Cx):List Addr:=frs X.outer
noncomputable def Vis (sc:Scope) (x:Str):Prop:=sc.names.lookup x=some .local∨sc.names.lookup x=some .cell∨sc.names.lookup x=some .free
noncomputable def Loc (sc:Scope) (x:Str):Prop:=sc.names.lookup x=some .local∨sc.names.lookup x=some .cell
noncomputable def Look (env:Env) (h:Heap) (m:Str→Option Value) (x:Str) (u:Value):Prop :=
 (env.kindOf x=some .local∧m x=some u)∨((env.kindOf x=some .cell∨env.kindOf x=some .free)∧∃ c,env.cells.lookup x=some c∧h.IsCell c (some u))
structure Cx.Ok (X:Cx):Prop where
 mod:Mod X.K X.mg X.base
 kind:X.env.scope.kind=.function
 glob:X.env.globals=mainGlobals
 blt:X.env.builtins=builtinsNs
 above:X.s₀.heap.objs.size≤X.env.locals
 inj:∀ x y c,X.env.cells.lookup x=some c→X.env.cells.lookup y=some c→x=y
 has:∀ x,(X.env.kindOf x=some .cell∨X.env.kindOf x=some .free)→∃ c,X.env.cells.lookup x=some c
 cab:∀ x c,X.fn x=true→X.env.cells.lookup x=some c→X.s₀.heap.objs.size≤c
 hd:X.calm=true→X.A.handled=none
 frames:X.A.frames=some X.stack
 stk:X.stack=X.outer∨(X.stack=X.env::X.outer∧X.env.frame=some X.env.locals)
 exf:∀ b∈X.ex,b≠X.env.locals∧∀ x c,X.env.cells.lookup x=some c→c≠b
 bs:∀ b o,X.base.get? b=some o→X.s₀.heap.get? b=some o∧X.H₀ b=none
 bsz:X.base.objs.size≤X.s₀.heap.objs.size
 noex:∀ b o,X.base.get? b=some o→b∉X.ex
 exfs:∀ b∈X.ex,b∉X.fs
 funs:X.s₀.heap.FunFrames X.base X.outer
 frf:∀ b∈X.fs,X.H₀ b=none
structure Inv (X:Cx) (pins:List (Addr × Obj)) (σ:List (Option V)) (H:Hp) (s:Shared):Prop where
 ok:X.Ok
 os:s.os=X.s₀.os
 bare:AllBare s.gens
 base:Un X.fs X.ex X.H₀ H X.s₀.heap s.heap
 loc:∃ m,s.heap.Ns X.env.locals m∧∀ (i:Nat) (x:Str) (v:V),X.N[i]?=some x→σ[i]?=some (some v)→Vis X.env.scope x→∃ u,RelV v u∧Look X.env s.heap m x u
 cell:∀ x c,X.env.cells.lookup x=some c→∃ v,s.heap.IsCell c v
 free:H X.env.locals=none
 freeC:∀ x c,X.env.cells.lookup x=some c→H c=none
 pin:∀ p∈X.pn++pins,s.heap.get? p.1=some p.2∧H p.1=none∧p.1≠X.env.locals∧p.1∉X.fs∧∀ v,p.2.data ≠ .cell v
 hok:HOk X.prog X.w H s.heap
 len:σ.length=X.N.length
section
variable {X:Cx} {pins:List (Addr × Obj)} {σ:List (Option V)} {H H':Hp} {s:Shared} {h':Heap}
theorem Cx.Ok.nofr (ok:X.Ok) {b:Addr} {o:Obj} (e:X.base.get? b=some o):b∉X.fs:=fun hb=>by
 have:=(ok.funs.mem hb).1
 rw [e] at this; injection this
theorem Inv.bs (I:Inv X pins σ H s):∀ b o,X.base.get? b=some o→s.heap.get? b=some o∧H b=none:=fun b o e =>
 ⟨I.base.keep b o (I.ok.bs b o e).1 (I.ok.bs b o e).2 (I.ok.nofr e) (I.ok.noex b o e),I.base.free b o (I.ok.bs b o e).1 (I.ok.bs b o e).2 (I.ok.noex b o e)⟩
theorem Inv.bk (I:Inv X pins σ H s):∀ b o,X.base.get? b=some o→s.heap.get? b=some o:=fun b o e=>(I.bs b o e).1
theorem Inv.mod (I:Inv X pins σ H s):Mod X.K X.mg X.base:=I.ok.mod
theorem Inv.kIn (I:Inv X pins σ H s):X.K.In s.heap:=I.ok.mod.kin.keeps I.bk
theorem Inv.fr (I:Inv X pins σ H s):∃ m,Fr X.base X.env.locals s.heap m :=
 let ⟨m,hn,_⟩:=I.loc
 ⟨m,hn,I.bk,Nat.le_trans I.ok.bsz I.ok.above⟩
theorem Inv.lt (I:Inv X pins σ H s):X.env.locals < s.heap.objs.size:=let ⟨_,hn,_⟩:=I.loc; hn.lt
theorem Inv.sz (I:Inv X pins σ H s):X.s₀.heap.objs.size≤s.heap.objs.size:=Nat.le_trans I.ok.above (Nat.le_of_lt I.lt)
theorem Inv.nofs (I:Inv X pins σ H s) {a:Addr} (h:s.heap.objs.size≤a):a∉X.fs:=fun hb=>by
 obtain ⟨_,o,ho,_⟩:=I.ok.funs.mem hb
 exact absurd (Nat.lt_of_lt_of_le (Heap.lt_size ho) (Nat.le_trans I.sz h)) (Nat.lt_irrefl _)
theorem Inv.cne (I:Inv X pins σ H s):∀ x c,X.env.cells.lookup x=some c→c≠X.env.locals:=fun x c e z=>by
 obtain ⟨v,o,ho,hd⟩:=I.cell x c e
 obtain ⟨m,⟨o',es,ep,ho',hd',_⟩,_⟩:=I.loc
 rw [z,ho'] at ho; (injection ho with ho; subst ho); rw [hd'] at hd; injection hd
theorem Inv.funs (I:Inv X pins σ H s):s.heap.FunFrames X.base X.outer:=by
 have all:∀ (l:List Env),(∀ b∈frs l,b∈X.fs)→X.s₀.heap.FunFrames X.base l→s.heap.FunFrames X.base l:=by
  intro l
  induction l with
  | nil=>intro _ _; trivial
  | cons env r ih =>
   intro hs hl
   obtain ⟨hk,⟨L,o,hf,hn,ho,hd⟩,hr⟩:=hl
   have hL:L∈X.fs:=hs L (by unfold frs; rw [List.filterMap_cons,hf]; exact List.mem_cons_self)
   obtain ⟨sl,e⟩:=I.base.slot L o ho (I.ok.frf L hL) hL fun z=>I.ok.exfs L z hL
   exact ⟨hk,⟨L,_,hf,hn,e,hd⟩,ih (fun b hb=>hs b (by unfold frs; rw [List.filterMap_cons,hf]; exact List.mem_cons_of_mem _ hb)) hr⟩
 exact all X.outer (fun _ hb=>hb) I.ok.funs
theorem Inv.stack (I:Inv X pins σ H s):s.heap.FunFrames X.base X.stack:=by
 rcases I.ok.stk with e | ⟨e,hf⟩
 ·rw [e]; exact I.funs
 ·rw [e]
  obtain ⟨m,hn,_⟩:=I.loc
  refine .cons (by rw [I.ok.kind]; decide) hf hn ?_ I.funs
  exact Heap.get?_none_of_le (Nat.le_trans I.ok.bsz I.ok.above)
theorem Inv.stkSub (I:Inv X pins σ H s):∀ b∈frs X.stack,b∈X.env.locals::X.fs:=fun b hb=>by
 rcases I.ok.stk with e | ⟨e,hf⟩
 ·rw [e] at hb; exact List.mem_cons_of_mem _ hb
 ·rw [e] at hb
  unfold frs at hb
  rw [List.filterMap_cons,hf] at hb
  exact hb
theorem Inv.stkFree (I:Inv X pins σ H s):∀ b∈frs X.stack,H b=none:=fun b hb=>by
 rcases List.mem_cons.mp (I.stkSub b hb) with e | hb
 ·rw [e]; exact I.free
 ·obtain ⟨_,o,ho,_⟩:=I.ok.funs.mem hb
  exact I.base.free b o ho (I.ok.frf b hb) fun z=>I.ok.exfs b z hb
theorem Inv.step {g':Array GenState} {t':Nat} {d':Drawn} {ch:List Addr} (I:Inv X pins σ H s)
  (hch:∀ b∈ch,(b∈X.ex∨X.s₀.heap.objs.size≤b)∧b≠X.env.locals∧(∀ x c,X.env.cells.lookup x=some c→c≠b)∧∀ p∈X.pn++pins,p.1≠b)
  (keep:∀ b o,b≠X.env.locals→b∉X.fs→b∉ch→s.heap.get? b=some o→H b=none→h'.get? b=some o)
  (slot:∀ b o,b≠X.env.locals→b∈X.fs→b∉ch→s.heap.get? b=some o→H b=none→∃ sl,h'.get? b=some { o with slots:=sl }) (free:∀ b o,b∉ch→s.heap.get? b=some o→H b=none→H' b=none)
  (there:∀ b o,b∉ch→s.heap.get? b=some o→∃ o',h'.get? b=some o')
  (tups:∀ b xs,H b=some (.tup xs)→H' b=some (.tup xs)) (frzs:∀ b o u,H b=some (.frz o u)→H' b=some (.frz o u)) (tbls:∀ b ps,H b=some (.tbl ps)→∃ more,H' b=some (.tbl (ps++more)))
  (ns:∀ m,s.heap.Ns X.env.locals m→h'.Ns X.env.locals m) (hok:HOk X.prog X.w H' h') (hg:AllBare g') :
  Inv X pins σ H' { s with heap:=h',gens:=g',drawn:=d',toks:=t' }:=by
 have neL:∀ b o,X.s₀.heap.get? b=some o→b≠X.env.locals:=fun b o e=>Nat.ne_of_lt (Nat.lt_of_lt_of_le (Heap.lt_size e) I.ok.above)
 have neC:∀ b o,X.s₀.heap.get? b=some o→b∉X.ex→b∉ch:=fun b o e hx hb=>by
  rcases (hch b hb).1 with z | z
  ·exact hx z
  ·exact absurd (Nat.lt_of_lt_of_le (Heap.lt_size e) z) (Nat.lt_irrefl _)
 have cellK:∀ x c,X.env.cells.lookup x=some c→∀ v,s.heap.IsCell c v→h'.IsCell c v:=fun x c e v ⟨o,ho,hd⟩=>by
  have nch:c∉ch:=fun z=>(hch c z).2.2.1 x c e rfl
  by_cases hc:c∈X.fs
  ·obtain ⟨sl,q⟩:=slot c o (I.cne x c e) hc nch ho (I.freeC x c e)
   exact ⟨_,q,hd⟩
  ·exact ⟨o,keep c o (I.cne x c e) hc nch ho (I.freeC x c e),hd⟩
 refine ⟨I.ok,I.os,hg,⟨fun b o e n hb hx=>?_,fun b o e n hb hx=>?_,fun b o e n hx=>?_,fun b o e hx=>?_,fun b xs e=>tups b xs (I.base.tups b xs e),fun b o xs e=>frzs b o xs (I.base.frzs b o xs e),fun b ps e=>?_⟩, ?_,fun x c e=>?_, ?_,fun x c e=>?_,fun p hp=>?_,hok,I.len⟩
 ·exact keep b o (neL b o e) hb (neC b o e hx) (I.base.keep b o e n hb hx) (I.base.free b o e n hx)
 ·obtain ⟨sl,e1⟩:=I.base.slot b o e n hb hx
  obtain ⟨sl',e2⟩:=slot b _ (neL b o e) hb (neC b o e hx) e1 (I.base.free b o e n hx)
  exact ⟨sl',e2⟩
 ·obtain ⟨o',e1⟩:=I.base.there b o e hx
  exact free b o' (neC b o e hx) e1 (I.base.free b o e n hx)
 ·obtain ⟨o',e1⟩:=I.base.there b o e hx
  exact there b o' (neC b o e hx) e1
 ·obtain ⟨m1,e1⟩:=I.base.tbls b ps e
  obtain ⟨m2,e2⟩:=tbls b _ e1
  exact ⟨m1++m2,by rw [e2,Array.append_assoc]⟩
 ·obtain ⟨m,hn,hl⟩:=I.loc
  refine ⟨m,ns m hn,fun i x v e1 e2 e3=>?_⟩
  obtain ⟨u,r,l⟩:=hl i x v e1 e2 e3
  refine ⟨u,r, ?_⟩
  rcases l with l | ⟨k,c,e,z⟩
  ·exact .inl l
  ·exact .inr ⟨k,c,e,cellK x c e _ z⟩
 ·obtain ⟨v,z⟩:=I.cell x c e
  exact ⟨v,cellK x c e v z⟩
 ·obtain ⟨m,⟨o,_,_,ho,_⟩,_⟩:=I.loc
  exact free _ o (fun z=>(hch _ z).2.1 rfl) ho I.free
 ·obtain ⟨v,o,ho,hd⟩:=I.cell x c e
  exact free c o (fun z=>(hch c z).2.2.1 x c e rfl) ho (I.freeC x c e)
 ·obtain ⟨e,n,ne,nf,d⟩:=I.pin p hp
  have nch:p.1∉ch:=fun z=>(hch p.1 z).2.2.2 p hp rfl
  exact ⟨keep p.1 p.2 ne nf nch e n,free p.1 p.2 nch e n,ne,nf,d⟩
theorem Inv.un {t':Nat} (I:Inv X pins σ H s) (u:Un X.fs [] H H' s.heap h') (hok:HOk X.prog X.w H' h'):Inv X pins σ H' { s with heap:=h',toks:=t' }:=by
 obtain ⟨m,⟨o,es,ep,ho,r⟩,_⟩:=id I.loc
 obtain ⟨sl,hL⟩:=u.any ho I.free (by simp)
 exact I.step (g':=s.gens) (d':=s.drawn) (ch:=[]) (fun _ z=>nomatch z) (fun b o _ hb _ e n=>u.keep b o e n hb (by simp)) (fun b o _ hb _ e n=>u.slot b o e n hb (by simp)) (fun b o _ e n=>u.free b o e n (by simp)) (fun b o _ e=>u.there b o e (by simp)) u.tups u.frzs u.tbls (fun m' hm=>by
  obtain ⟨o',es',ep',ho',r'⟩:=hm
  rw [ho] at ho'; (injection ho' with ho'; subst ho')
  exact ⟨_,es',ep',hL,r'⟩) hok I.bare
theorem Inv.call {g':Array GenState} {t':Nat} {d':Drawn} {ch:List Addr} (I:Inv X pins σ H s) (u:Un (frs X.stack) ch H H' s.heap h') (hok:HOk X.prog X.w H' h') (hg:AllBare g')
  (hch:∀ b∈ch,(b∈X.ex∨X.s₀.heap.objs.size≤b)∧b≠X.env.locals∧(∀ x c,X.env.cells.lookup x=some c→c≠b)∧∀ p∈X.pn++pins,p.1≠b) :
  Inv X pins σ H' { s with heap:=h',gens:=g',drawn:=d',toks:=t' }:=by
 obtain ⟨m,⟨o,es,ep,ho,r⟩,_⟩:=id I.loc
 obtain ⟨sl,hL⟩:=u.any ho I.free fun z=>(hch _ z).2.1 rfl
 exact I.step (ch:=ch) hch (fun b o hL hb hc e n=>u.keep b o e n (fun z=>(List.mem_cons.mp (I.stkSub b z)).elim hL hb) hc) (fun b o _ _ hc e n=>u.any e n hc) (fun b o hc e n=>u.free b o e n hc) (fun b o hc e=>u.there b o e hc) u.tups u.frzs u.tbls (fun m' hm=>by
  obtain ⟨o',es',ep',ho',r'⟩:=hm
  rw [ho] at ho'; (injection ho' with ho'; subst ho')
  exact ⟨_,es',ep',hL,r'⟩) hok hg
theorem Inv.turned {t':Nat} {it:Addr} (I:Inv X pins σ H s) (k:∀ b o,b≠it→s.heap.get? b=some o→h'.get? b=some o) (hn:H it=none) (hL:it≠X.env.locals)
  (h1:it∈X.ex∨X.s₀.heap.objs.size≤it) (h2:∀ x c,X.env.cells.lookup x=some c→c≠it) (h3:∀ p∈X.pn++pins,p.1≠it):Inv X pins σ H { s with heap:=h',toks:=t' }:=by
 have nit:∀ b u,H b=some u→b≠it:=fun b u e z=>by rw [z,hn] at e; injection e
 refine I.step (g':=s.gens) (d':=s.drawn) (ch:=[it]) (fun b hb=>?_) (fun b o _ _ hc e _=>k b o (fun z=>hc (by simp [z])) e) (fun b o _ _ hc e _=>⟨o.slots,k b o (fun z=>hc (by simp [z])) e⟩) (fun _ _ _ _ n=>n)
  (fun b o hc e=>⟨o,k b o (fun z=>hc (by simp [z])) e⟩) (fun _ _ e=>e) (fun _ _ _ e=>e) (fun b ps e=>⟨#[],by rw [e]; simp⟩) (fun m hm=>?_) (fun b u e=>?_) I.bare
 ·have e:b=it:=by simpa using hb
  subst e
  exact ⟨h1,hL,h2,h3⟩
 ·obtain ⟨o,es,ep,ho,r⟩:=hm
  exact ⟨o,es,ep,k _ o (Ne.symm hL) ho,r⟩
 ·refine (I.hok b u e).stay (fun c v hc q=>k c v ?_ q) (fun _ q=>q) fun _ _ q=>q
  rcases hc with z | z
  ·rw [z]; exact nit b u e
  ·exact nit c _ z
theorem Inv.tok (I:Inv X pins σ H s) (t:Nat):Inv X pins σ H { s with toks:=t }:=I.un (h':=s.heap) (t':=t) Un.refl I.hok
theorem Inv.kept {t':Nat} (I:Inv X pins σ H s) (k:∀ b u,s.heap.get? b=some u→h'.get? b=some u):Inv X pins σ H { s with heap:=h',toks:=t' }:=I.un (Un.kept k) (I.hok.kept k)
theorem Inv.laid {a:Addr} {o:HO} {t':Nat} (I:Inv X pins σ H s) (k:∀ b u,s.heap.get? b=some u→h'.get? b=some u) (hp:s.heap.objs.size≤a) (new:ce X.prog X.w (upd H a o) h' a o) :
  Inv X pins σ (upd H a o) { s with heap:=h',toks:=t' }:=I.un (Un.laid k hp (I.hok.fresh hp)) (I.hok.laid k hp new)
theorem Inv.write {x e:Addr} {o:HO} {t':Nat} (I:Inv X pins σ H s) (mu:Mut (H x)) (he:e=x∨H e=some (.own x)) (k:∀ b u,b≠e→s.heap.get? b=some u→h'.get? b=some u) (heo:∃ u,h'.get? e=some u)
  (new:ce X.prog X.w (upd H x o) h' x o):Inv X pins σ (upd H x o) { s with heap:=h',toks:=t' }:=I.un (Un.write mu he k heo) (I.hok.write mu he k heo new)
theorem Inv.pins_of {pins':List (Addr × Obj)} (I:Inv X pins σ H s) (h:∀ p∈pins',s.heap.get? p.1=some p.2∧H p.1=none∧p.1≠X.env.locals∧p.1∉X.fs∧∀ v,p.2.data ≠ .cell v):Inv X pins' σ H s :=
 ⟨I.ok,I.os,I.bare,I.base,I.loc,I.cell,I.free,I.freeC,fun p hp=>(List.mem_append.mp hp).elim (fun z=>I.pin p (List.mem_append_left _ z)) (h p),I.hok,I.len⟩
theorem nodup_ix {N:List Str} (hN:N.Nodup) {i j:Nat} {x:Str} (a:N[i]?=some x) (b:N[j]?=some x):i=j:=by
 obtain ⟨h1,e1⟩:=List.getElem?_eq_some_iff.mp a
 obtain ⟨h2,e2⟩:=List.getElem?_eq_some_iff.mp b
 exact (List.getElem_inj hN).mp (e1.trans e2.symm)
theorem store_ok2 {M:Model} {A:Around} {E:Value→Shared→Prop} {i:Nat} {x:Str} {v:V} {u:Value} {Q:Unit→Shared→Prop} (I:Inv X pins σ H s) (hN:X.N.Nodup) (hi:X.N[i]?=some x) (hx:Loc X.env.scope x) (r:RelV v u)
  (h:∀ s',Inv X pins (σ.set i (some v)) H s'→(∃ a,Heap.SameBut a s.heap s'.heap∧(a=X.env.locals∨X.env.cells.lookup x=some a))→Q () s') (hf:X.fn x=true∨X.env.scope.names.lookup x=some .local:=by first | exact .inl rfl | exact .inr rfl | assumption):wpAny M A (storeName X.env x u) Q E s:=by
 obtain ⟨m,hn,hl⟩:=id I.loc
 have hcls:(X.env.scope.kind == .class || (X.env.scope.kind == .module && X.env.locals != X.env.globals))=false:=by rw [I.ok.kind]; rfl
 have hiσ:i < σ.length:=by rw [I.len]; exact (List.getElem?_eq_some_iff.mp hi).1
 have cne:=I.cne
 have tracked:∀ {a:Addr} {h':Heap},(∃ o,s.heap.get? a=some o∧H a=none)→Heap.SameBut a s.heap h'→HOk X.prog X.w H h':=fun {a h'} ha hs b ob e=>by
  obtain ⟨_,_,hfree⟩:=ha
  refine (I.hok b ob e).stay (fun c w' hc q=>(hs.2 c ?_).trans q) (fun _ q=>q) fun _ _ q=>q
  rintro rfl
  rcases hc with rfl | hc
  ·rw [hfree] at e; injection e
  ·rw [hfree] at hc; injection hc
 rcases hx with hk | hk
 ·refine wpAny_storeName_local hk hn (fun h' hn' hs=>?_) hcls
  obtain ⟨oL,_,_,hoL,_⟩:=id hn
  refine h _ ⟨I.ok,I.os,I.bare,⟨fun b o e n hb hx=>?_,fun b o e n hb hx=>?_,I.base.free,fun b o e hx=>?_,I.base.tups,I.base.frzs,I.base.tbls⟩,⟨_,hn',fun j y v' e1 e2 e3=>?_⟩,fun y c e=>?_,I.free,I.freeC,fun p hp=>?_,tracked ⟨oL,hoL,I.free⟩ hs,by simpa using I.len⟩ ⟨_,hs,.inl rfl⟩
  ·exact (hs.2 b (Nat.ne_of_lt (Nat.lt_of_lt_of_le (Heap.lt_size e) I.ok.above))).trans (I.base.keep b o e n hb hx)
  ·obtain ⟨sl,e1⟩:=I.base.slot b o e n hb hx
   exact ⟨sl,(hs.2 b (Nat.ne_of_lt (Nat.lt_of_lt_of_le (Heap.lt_size e) I.ok.above))).trans e1⟩
  ·obtain ⟨o',e1⟩:=I.base.there b o e hx
   exact ⟨o',(hs.2 b (Nat.ne_of_lt (Nat.lt_of_lt_of_le (Heap.lt_size e) I.ok.above))).trans e1⟩
  ·by_cases hj:j=i
   ·subst hj
    rw [hi] at e1; (injection e1 with e1; subst e1)
    rw [List.getElem?_set_self hiσ] at e2
    (injection e2 with e2; injection e2 with e2; subst e2)
    exact ⟨u,r,.inl ⟨hk,by simp⟩⟩
   ·rw [List.getElem?_set_ne (Ne.symm hj)] at e2
    obtain ⟨u',r',q⟩:=hl j y v' e1 e2 e3
    refine ⟨u',r', ?_⟩
    rcases q with ⟨k,e⟩ | ⟨k,c,e,z⟩
    ·refine .inl ⟨k, ?_⟩
     have:y≠x:=fun e=>hj (nodup_ix hN e1 (e ▸ hi))
     simp [this,e]
    ·exact .inr ⟨k,c,e,z.sameBut hs (cne y c e)⟩
  ·obtain ⟨w',z⟩:=I.cell y c e
   exact ⟨w',z.sameBut hs (cne y c e)⟩
  ·obtain ⟨e,n,ne,nf,d⟩:=I.pin p hp
   exact ⟨(hs.2 p.1 ne).trans e,n,ne,nf,d⟩
 ·have hfn:X.fn x=true:=by
   rcases hf with z | z
   ·exact z
   ·rw [z] at hk; (injection hk with hk; injection hk)
  obtain ⟨c,hc⟩:=I.ok.has x (.inl hk)
  obtain ⟨w',z⟩:=I.cell x c hc
  refine wpAny_storeName_cell I.ok.kind hk hc z (fun h' hc' hs=>?_)
  obtain ⟨oc,hoc,hocd⟩:=id z
  refine h { s with heap:=h' } ⟨I.ok,I.os,I.bare,⟨fun b o e n hb hx=>?_,fun b o e n hb hx=>?_,I.base.free,fun b o e hx=>?_,I.base.tups,I.base.frzs,I.base.tbls⟩,⟨m,hn.sameBut hs (Ne.symm (cne x c hc)),fun j y v' e1 e2 e3=>?_⟩,fun y c' e=>?_,I.free,I.freeC,fun p hp=>?_,tracked ⟨oc,hoc,I.freeC x c hc⟩ hs,by simpa using I.len⟩ ⟨c,hs,.inr hc⟩
  ·exact (hs.2 b (Nat.ne_of_lt (Nat.lt_of_lt_of_le (Heap.lt_size e) (I.ok.cab x c hfn hc)))).trans (I.base.keep b o e n hb hx)
  ·obtain ⟨sl,e1⟩:=I.base.slot b o e n hb hx
   exact ⟨sl,(hs.2 b (Nat.ne_of_lt (Nat.lt_of_lt_of_le (Heap.lt_size e) (I.ok.cab x c hfn hc)))).trans e1⟩
  ·obtain ⟨o',e1⟩:=I.base.there b o e hx
   exact ⟨o',(hs.2 b (Nat.ne_of_lt (Nat.lt_of_lt_of_le (Heap.lt_size e) (I.ok.cab x c hfn hc)))).trans e1⟩
  ·by_cases hj:j=i
   ·subst hj
    rw [hi] at e1; (injection e1 with e1; subst e1)
    rw [List.getElem?_set_self hiσ] at e2
    (injection e2 with e2; injection e2 with e2; subst e2)
    exact ⟨u,r,.inr ⟨.inl hk,c,hc,hc'⟩⟩
   ·rw [List.getElem?_set_ne (Ne.symm hj)] at e2
    obtain ⟨u',r',q⟩:=hl j y v' e1 e2 e3
    refine ⟨u',r', ?_⟩
    rcases q with q | ⟨k,c',e,z'⟩
    ·exact .inl q
    ·refine .inr ⟨k,c',e,z'.sameBut hs ?_⟩
     rintro rfl
     exact hj (nodup_ix hN e1 (I.ok.inj _ _ _ e hc ▸ hi))
  ·by_cases hcc:c'=c
   ·subst hcc; exact ⟨_,hc'⟩
   ·obtain ⟨w2,z2⟩:=I.cell y c' e
    exact ⟨w2,z2.sameBut hs hcc⟩
  ·obtain ⟨e,n,ne,nf,d⟩:=I.pin p hp
   refine ⟨(hs.2 p.1 ?_).trans e,n,ne,nf,d⟩
   intro q
   rw [q,hoc] at e
   have q':oc=p.2:=Option.some.inj e
   exact d w' (by rw [← q']; exact hocd)
theorem store_ok {M:Model} {A:Around} {E:Value→Shared→Prop} {i:Nat} {x:Str} {v:V} {u:Value} {Q:Unit→Shared→Prop} (I:Inv X pins σ H s) (hN:X.N.Nodup) (hi:X.N[i]?=some x) (hx:Loc X.env.scope x) (r:RelV v u)
  (h:∀ s',Inv X pins (σ.set i (some v)) H s'→Q () s') (hf:X.fn x=true∨X.env.scope.names.lookup x=some .local:=by first | exact .inl rfl | exact .inr rfl | assumption):wpAny M A (storeName X.env x u) Q E s :=
 store_ok2 I hN hi hx r (fun s' I' _=>h s' I') hf
theorem Inv.call' {s':Shared} {ch:List Addr} (I:Inv X pins σ H s) (ho:s'.os=s.os) (u:Un (frs X.stack) ch H H' s.heap s'.heap) (hok:HOk X.prog X.w H' s'.heap) (hg:AllBare s'.gens)
  (hch:∀ b∈ch,(b∈X.ex∨X.s₀.heap.objs.size≤b)∧b≠X.env.locals∧(∀ x c,X.env.cells.lookup x=some c→c≠b)∧∀ p∈X.pn++pins,p.1≠b):Inv X pins σ H' s':=by
 obtain ⟨h',g',d',t',o'⟩:=s'
 have e:o'=s.os:=ho
 subst e
 exact I.call (g':=g') (t':=t') (d':=d') u hok hg hch
end
noncomputable abbrev XK:=Value→Option Addr→Hp→Prop
noncomputable abbrev St:=List (Option V)
noncomputable abbrev VK:=V→Hp→Prop
noncomputable abbrev TE:=St→Hp→VK→Prop
noncomputable abbrev TT:=St→Hp→(Bool→Hp→Prop)→Prop
noncomputable abbrev TA:=St→Hp→(List V→Hp→Prop)→Prop
structure Ends where
 nx:St→Hp→Prop
 rt:VK
 bk:St→Hp→Prop:=fun _ _=>False
 ct:St→Hp→Prop:=fun _ _=>False
noncomputable abbrev TS:=Ends→St→Hp→Prop
inductive EP (X:Cx) (pins:List (Addr × Obj)) (σ:St) (Q:VK) (u:Value) (s':Shared):Prop
 | mk (v:V) (H':Hp) (I:Inv X pins σ H' s') (r:RelV v u) (q:Q v H')
inductive TP (X:Cx) (pins:List (Addr × Obj)) (σ:St) (Q:Bool→Hp→Prop) (b:Bool) (s':Shared):Prop
 | mk (H':Hp) (I:Inv X pins σ H' s') (q:Q b H')
inductive AP (X:Cx) (pins:List (Addr × Obj)) (σ:St) (Q:List V→Hp→Prop) (us:List Value) (s':Shared):Prop
 | mk (vs:List V) (H':Hp) (I:Inv X pins σ H' s') (r:Vals vs us) (q:Q vs H')
inductive NP (X:Cx) (pins:List (Addr × Obj)) (Q:St→Hp→Prop) (s':Shared):Prop
 | mk (σ':St) (H':Hp) (I:Inv X pins σ' H' s') (q:Q σ' H')
inductive RP (X:Cx) (pins:List (Addr × Obj)) (Q:VK) (u:Value) (s':Shared):Prop
 | mk (v:V) (σ':St) (H':Hp) (I:Inv X pins σ' H' s') (r:RelV v u) (q:Q v H')
noncomputable def SP (X:Cx) (pins:List (Addr × Obj)) (D:Ends) (f:Flow) (s':Shared):Prop :=
 match f with
 | .next=>NP X pins D.nx s'
 | .brk=>NP X pins D.bk s'
 | .cont=>NP X pins D.ct s'
 | .ret u=>RP X pins D.rt u s'
noncomputable def PE (X:Cx) (e:Expr) (t:TE):Prop :=
 ∀ (pins:List (Addr × Obj)) (s:Shared) (σ:St) (H:Hp) (Q:VK),Inv X pins σ H s→t σ H Q→wpAny (model X.prog X.w) X.A (eval e X.env) (EP X pins σ Q) X.xe s
noncomputable def PT (X:Cx) (e:Expr) (t:TT):Prop :=
 ∀ (pins:List (Addr × Obj)) (s:Shared) (σ:St) (H:Hp) (Q:Bool→Hp→Prop),Inv X pins σ H s→t σ H Q→wpAny (model X.prog X.w) X.A (isTrue e X.env (eval e X.env)) (TP X pins σ Q) X.xe s
noncomputable def PW (X:Cx) (e:Expr) (t:TT):Prop :=
 ∀ (whole:Sem Value) (pins:List (Addr × Obj)) (s:Shared) (σ:St) (H:Hp) (Q:Bool→Hp→Prop),Inv X pins σ H s→t σ H Q→wpAny (model X.prog X.w) X.A (isTrue e X.env whole) (TP X pins σ Q) X.xe s
theorem PW.pt {X:Cx} {e:Expr} {t:TT} (h:PW X e t):PT X e t:=h _
noncomputable def PA (X:Cx) (es:List Expr) (t:TA):Prop :=
 ∀ (pos:Pos) (pins:List (Addr × Obj)) (s:Shared) (σ:St) (H:Hp) (Q:List V→Hp→Prop),Inv X pins σ H s→t σ H Q→wpAny (model X.prog X.w) X.A (spliced (backTo pos (starEach es X.env))) (AP X pins σ Q) X.xe s
noncomputable def PS (X:Cx) (st:Stmt) (t:TS):Prop :=
 ∀ (pins:List (Addr × Obj)) (s:Shared) (σ:St) (H:Hp) (D:Ends),Inv X pins σ H s→t D σ H→wpAny (model X.prog X.w) X.A (exec st X.env) (SP X pins D) X.xe s
noncomputable def PSs (X:Cx) (st:List Stmt) (t:TS):Prop :=
 ∀ (pins:List (Addr × Obj)) (s:Shared) (σ:St) (H:Hp) (D:Ends),Inv X pins σ H s→t D σ H→wpAny (model X.prog X.w) X.A (execs st X.env) (SP X pins D) X.xe s
theorem thn {α:Type} {t:Sem α} {Q Q':α→Shared→Prop} {M:Model} {A:Around} {E:Value→Shared→Prop} {s:Shared} (h:wpAny M A t Q E s) (hQ:∀ a s,Q a s→Q' a s):wpAny M A t Q' E s:=wpAny_mono h hQ fun _ _ x=>x
end L2
namespace L2
open PySem PySem.Spec PyProof.Rows
section
variable {X:Cx}
noncomputable def tVar (i:Nat):TE:=fun σ H Q=>∃ v,σ[i]?=some (some v)∧Q v H
noncomputable def tC (v:V):TE:=fun _ H Q=>Q v H
theorem cD {i : Nat} {x : Str} {pos : Pos} (hN : X.N[i]? = some x) (hv : Vis X.env.scope x) (hd : (x == ("__debug__" : Str)) = false := by decide) (hcd : (x == ("__classdict__" : Str)) = false := by decide) : PE X (.Name x pos) (tVar i) := by
 intro pins s σ H Q I h
 obtain ⟨v,e,h⟩:=h
 obtain ⟨m,hn,hl⟩:=I.loc
 obtain ⟨u,r,l⟩:=hl i x v hN e hv
 have fin:EP X pins σ Q u s:=⟨v,H,I,r,h⟩
 rcases l with ⟨hk,hm⟩ | ⟨hk,c,hc,hcell⟩
 ·exact wpAny_Name (wpAny_loadName_local I.ok.kind hk hn hm fin) hd
 ·rcases hk with hk | hk
  ·exact wpAny_Name (wpAny_loadName_cell I.ok.kind hk hc hcell fin) hd
  ·exact wpAny_Name (wpAny_loadName_free I.ok.kind hk hc hcell fin hcd) hd
theorem pe_int {i j pos}:PE X (.Constant (.int i) j pos) (tC (.int i)):=fun _ _ _ H _ I h=>wpAny_Constant_int ⟨.int i,H,I.tok _,⟨_,rfl⟩,h⟩
theorem pe_bl {b j pos}:PE X (.Constant (.bool b) j pos) (tC (.bl b)):=fun _ _ _ H _ I h=>Constant_bool ⟨.bl b,H,I,rfl,h⟩
theorem pe_non {j pos}:PE X (.Constant .none j pos) (tC .non):=fun _ _ _ H _ I h=>Constant_none ⟨.non,H,I,rfl,h⟩
noncomputable def Gl (X:Cx) (x:Str):Prop:=X.env.kindOf x=some .globalImplicit
theorem ld_glob {E:Value→Shared→Prop} {pins:List (Addr × Obj)} {s:Shared} {σ:St} {H:Hp} {x:Str} {u:Value} {pos:Pos} {Q:Value→Shared→Prop} (I:Inv X pins σ H s) (hg:Gl X x) (hm:X.mg x=some u) (h:Q u s)
  (hd : (x == ("__debug__" : Str)) = false := by decide) : wpAny (model X.prog X.w) X.A (eval (.Name x pos) X.env) Q E s :=
 Calls.Name_function_global I.ok.kind hg (Calls.loadGlobal_global (by rw [I.ok.glob]; exact I.mod.glob.keeps I.bk) hm h) hd
theorem ld_blt {E:Value→Shared→Prop} {pins:List (Addr × Obj)} {s:Shared} {σ:St} {H:Hp} {x:Str} {u:Value} {pos:Pos} {Q:Value→Shared→Prop} (I:Inv X pins σ H s) (hg:Gl X x) (hm:X.mg x=none) (hv:bootBuiltins x=some u) (h:Q u s)
  (hn : x ≠ "__name__" := by decide) (hd : (x == ("__debug__" : Str)) = false := by decide) : wpAny (model X.prog X.w) X.A (eval (.Name x pos) X.env) Q E s := by
 obtain ⟨mb,h1,h2⟩:=I.mod.blt
 exact Calls.Name_function_global I.ok.kind hg (Calls.loadGlobal_builtin (by rw [I.ok.glob]; exact I.mod.glob.keeps I.bk) hm (by rw [I.ok.blt]; exact h1.keeps I.bk) ((h2 x hn).trans hv) h) hd
theorem pe_glob {x : Str} {v : V} {u : Value} {pos : Pos} (hg : Gl X x) (hm : X.mg x = some u) (r : RelV v u) (hd : (x == ("__debug__" : Str)) = false := by decide) : PE X (.Name x pos) (tC v) :=
 fun _ _ _ H _ I h=>ld_glob I hg hm ⟨v,H,I,r,h⟩ hd
theorem pe_bltn {x : Str} {v : V} {u : Value} {pos : Pos} (hg : Gl X x) (hm : X.mg x = none) (hv : bootBuiltins x = some u) (r : RelV v u) (hn : x ≠ "__name__" := by decide) (hd : (x == ("__debug__" : Str)) = false := by decide) : PE X (.Name x pos) (tC v) :=
 fun _ _ _ H _ I h=>ld_blt I hg hm hv ⟨v,H,I,r,h⟩ hn hd
variable {a b:Expr} {ta tb:TE} {pos:Pos}
variable {tA tB':TT} {rest:List Expr}
noncomputable def tAnd (t u:TT):TT:=fun σ H Q=>t σ H fun c H1=>if c=true then u σ H1 Q else Q false H1
noncomputable def tOr (t u:TT):TT:=fun σ H Q=>t σ H fun c H1=>if c=true then Q true H1 else u σ H1 Q
noncomputable def tNot (t:TT):TT:=fun σ H Q=>t σ H fun c H1=>Q (!c) H1
theorem pw_and1 (ha:PT X a tA):PW X (.BoolOp .And [a] pos) tA:=by
 intro wh pins s σ H Q I h
 refine isTrue_and (thn (ha pins s σ H Q I h) fun c s1 e=>?_)
 cases c with
 | true=>exact isTrue_and_nil e
 | false=>exact e
theorem pw_or1 (ha:PT X a tA):PW X (.BoolOp .Or [a] pos) tA:=by
 intro wh pins s σ H Q I h
 refine isTrue_or (thn (ha pins s σ H Q I h) fun c s1 e=>?_)
 cases c with
 | false=>exact isTrue_or_nil e
 | true=>exact e
theorem pw_and (ha:PT X a tA) (hb:PW X (.BoolOp .And (b::rest) pos) tB'):PW X (.BoolOp .And (a::b::rest) pos) (tAnd tA tB'):=by
 intro wh pins s σ H Q I h
 refine isTrue_and (thn (ha pins s σ H _ I h) fun c s1 hh_=>?_)
 obtain ⟨H1,I1,q1⟩:=hh_
 cases c with
 | true=>exact hb wh pins s1 σ H1 Q I1 q1
 | false=>exact ⟨H1,I1,q1⟩
theorem pw_or (ha:PT X a tA) (hb:PW X (.BoolOp .Or (b::rest) pos) tB'):PW X (.BoolOp .Or (a::b::rest) pos) (tOr tA tB'):=by
 intro wh pins s σ H Q I h
 refine isTrue_or (thn (ha pins s σ H _ I h) fun c s1 hh_=>?_)
 obtain ⟨H1,I1,q1⟩:=hh_
 cases c with
 | true=>exact ⟨H1,I1,q1⟩
 | false=>exact hb wh pins s1 σ H1 Q I1 q1
theorem pt_not (ha:PT X a tA):PT X (.UnaryOp .Not a pos) (tNot tA):=by
 intro pins s σ H Q I h
 exact isTrue_not (thn (ha pins s σ H (fun c H1=>Q (!c) H1) I h) fun c s1 h1=>by
  obtain ⟨H1,I1,q1⟩:=h1
  exact ⟨H1,I1,q1⟩)
noncomputable def tAndV (ta tb:TE):TE:=fun σ H Q=>ta σ H fun x H1=>∃ c,x=.bl c∧if c=true then tb σ H1 Q else Q (.bl false) H1
noncomputable def tNotV (ta:TE):TE:=fun σ H Q=>ta σ H fun x H1=>∃ c,x=.bl c∧Q (.bl (!c)) H1
theorem pe_one {op} {t:TE} (h:PE X a t):PE X (.BoolOp op [a] pos) t:=fun pins s σ H Q I hw=>BoolOp_one (h pins s σ H Q I hw)
theorem pe_and (ha:PE X a ta) (hb:PE X (.BoolOp .And (b::rest) pos) tb):PE X (.BoolOp .And (a::b::rest) pos) (tAndV ta tb):=by
 intro pins s σ H Q I h
 refine BoolOp_and (thn (ha pins s σ H _ I h) fun v s1 hh_=>?_)
 obtain ⟨x,H1,I1,r1,q1⟩:=hh_
 obtain ⟨c,rfl,q1⟩:=q1
 subst r1
 refine wpAny_truthy_bool ?_
 cases c with
 | true=>exact hb pins s1 σ H1 Q I1 q1
 | false=>exact ⟨.bl false,H1,I1,rfl,q1⟩
theorem pe_not (ha:PE X a ta):PE X (.UnaryOp .Not a pos) (tNotV ta):=by
 intro pins s σ H Q I h
 refine UnaryOp_ (thn (ha pins s σ H _ I h) fun v s1 hh_=>?_)
 refine zz fun P_ k_=>?_
 obtain ⟨x,H1,I1,r1,q1⟩:=hh_
 obtain ⟨c,rfl,q1⟩:=q1
 refine k_ ?_
 subst r1
 exact not_of (wpAny_truthy_bool ⟨.bl (!c),H1,I1,rfl,q1⟩)
end
end L2
namespace L2
open PySem PySem.Spec PyProof.Rows
noncomputable def SqL (K:PySem.W.Frag) (H:Hp) (a:Addr) (xs:List V):Prop :=
 Rd H a (.lst xs) ∨
  ∃ (o : Obj) (its : Array Value) (n : Nat), K.lookup a = some o ∧ o.cls = .type "list" ∧ o.dict = none ∧ o.data = .seq its n ∧ its.size ≤ sizeLine ∧ Vals xs its.toList
noncomputable def SqT (K:PySem.W.Frag) (H:Hp) (a:Addr) (xs:List V):Prop :=
 Rd H a (.tup xs) ∨
  ∃ (o : Obj) (its : Array Value) (n : Nat), K.lookup a = some o ∧ o.cls = .type "tuple" ∧ o.data = .seq its n ∧ its.size ≤ sizeLine ∧ Vals xs its.toList
noncomputable def absV:Value→Option V
 | .none=>some .non
 | .bool b=>some (.bl b)
 | .int i _=>some (.int i)
 | .str x _=>some (.str x)
 | .bytes b _=>some (.byt b)
 | .float b _=>some (.flt b)
 | .ref a=>some (.ref a)
 | .type n=>some (.ty n)
 | _=>none
theorem RelV.abs {x:V} {u:Value} (r:RelV x u):absV u=some x:=by
 cases x with
 | non=>subst r; rfl
 | bl _=>subst r; rfl
 | int _=>obtain ⟨t,rfl⟩:=r; rfl
 | str _=>obtain ⟨t,rfl⟩:=r; rfl
 | byt _=>obtain ⟨t,rfl⟩:=r; rfl
 | flt _=>obtain ⟨t,rfl⟩:=r; rfl
 | ref _=>subst r; rfl
 | ty _=>subst r; rfl
theorem RelV.inj {x y:V} {u:Value} (r:RelV x u) (q:RelV y u):x=y:=Option.some.inj (r.abs.symm.trans q.abs)
theorem Vals.inj:∀ {xs ys:List V} {us:List Value},Vals xs us→Vals ys us→xs=ys:=by
 intro xs ys us h
 induction h generalizing ys with
 | nil=>intro h'; cases h'; rfl
 | cons r t ih =>
  intro h'
  cases h' with
  | cons r' t'=>rw [r.inj r',ih t']
section
variable {X:Cx} {pins:List (Addr × Obj)} {σ:St} {H:Hp} {s:Shared} {a:Addr} {xs ys:List V}
theorem Inv.list (I:Inv X pins σ H s) (h:SqL X.K H a xs):∃ its:List Value,Vals xs its∧PlainL s.heap a its.toArray∧xs.length≤sizeLine:=by
 rcases h with h | ⟨o,its,n,hk,hc,hd,hs,hz,r⟩
 ·obtain ⟨z,its,n,r,e⟩:=h.ok I.hok
  exact ⟨its,r,⟨_,n,e,rfl,rfl,rfl⟩,z⟩
 ·refine ⟨its.toList,r,⟨o,n,I.kIn a o hk,hc,hd,by simpa using hs⟩, ?_⟩
  have e:=r.length
  simp only [Array.length_toList] at e
  omega
theorem Inv.tuple (I:Inv X pins σ H s) (h:SqT X.K H a xs):∃ its:List Value,Vals xs its∧IsTup s.heap a its.toArray∧xs.length≤sizeLine:=by
 rcases h with h | ⟨o,its,n,hk,hc,hs,hz,r⟩
 ·obtain ⟨z,its,r,p⟩:=h.ok I.hok
  exact ⟨its,r,p,z⟩
 ·refine ⟨its.toList,r,⟨o,I.kIn a o hk,hc,n,by simpa using hs⟩, ?_⟩
  have e:=r.length
  simp only [Array.length_toList] at e
  omega
theorem Inv.list_inj (I:Inv X pins σ H s) (h:SqL X.K H a xs) (h':SqL X.K H a ys):xs=ys:=by
 obtain ⟨its,r,⟨o,n,e,_,_,d⟩,_⟩:=I.list h
 obtain ⟨its',r',⟨o',n',e',_,_,d'⟩,_⟩:=I.list h'
 rw [e] at e'; (injection e' with e'; subst e')
 rw [d] at d'
 injection d' with d1 _
 have:its=its':=by simpa using congrArg Array.toList d1
 subst this
 exact r.inj r'
theorem Inv.tuple_inj (I:Inv X pins σ H s) (h:SqT X.K H a xs) (h':SqT X.K H a ys):xs=ys:=by
 obtain ⟨its,r,⟨o,e,_,n,d⟩,_⟩:=I.tuple h
 obtain ⟨its',r',⟨o',e',_,n',d'⟩,_⟩:=I.tuple h'
 rw [e] at e'; (injection e' with e'; subst e')
 rw [d] at d'
 injection d' with d1 _
 have:its=its':=by simpa using congrArg Array.toList d1
 subst this
 exact r.inj r'
end
noncomputable abbrev Cx.wish (X:Cx) (E:Value→Shared→Prop):Cx:={ X with xe:=E }
noncomputable abbrev Cx.nox (X:Cx):Cx:=X.wish fun _ _=>False
theorem Cx.Ok.wish {X:Cx} (ok:X.Ok) (E:Value→Shared→Prop):(X.wish E).Ok :=
 ⟨ok.mod,ok.kind,ok.glob,ok.blt,ok.above,ok.inj,ok.has,ok.cab,ok.hd,ok.frames,ok.stk,ok.exf,ok.bs,ok.bsz,ok.noex,ok.exfs,ok.funs,ok.frf⟩
theorem Cx.Ok.unwish {X:Cx} {E:Value→Shared→Prop} (ok:(X.wish E).Ok):X.Ok :=
 ⟨ok.mod,ok.kind,ok.glob,ok.blt,ok.above,ok.inj,ok.has,ok.cab,ok.hd,ok.frames,ok.stk,ok.exf,ok.bs,ok.bsz,ok.noex,ok.exfs,ok.funs,ok.frf⟩
section
variable {X:Cx} {pins:List (Addr × Obj)} {σ:St} {H:Hp} {s:Shared} {E:Value→Shared→Prop}
theorem Inv.wish (I:Inv X pins σ H s) (E:Value→Shared→Prop):Inv (X.wish E) pins σ H s:=⟨I.ok.wish E,I.os,I.bare,I.base,I.loc,I.cell,I.free,I.freeC,I.pin,I.hok,I.len⟩
theorem Inv.unwish (I:Inv (X.wish E) pins σ H s):Inv X pins σ H s:=⟨I.ok.unwish,I.os,I.bare,I.base,I.loc,I.cell,I.free,I.freeC,I.pin,I.hok,I.len⟩
theorem SP.unwish {D:Ends} {f:Flow} {s':Shared} (h:SP (X.wish E) pins D f s'):SP X pins D f s':=by
 cases f with
 | next=>obtain ⟨σ',H',I,q⟩:=h; exact ⟨σ',H',I.unwish,q⟩
 | brk=>obtain ⟨σ',H',I,q⟩:=h; exact ⟨σ',H',I.unwish,q⟩
 | cont=>obtain ⟨σ',H',I,q⟩:=h; exact ⟨σ',H',I.unwish,q⟩
 | ret u=>obtain ⟨v,σ',H',I,r,q⟩:=h; exact ⟨v,σ',H',I.unwish,r,q⟩
theorem PSs.nox {st:List Stmt} {t:TS} (h:PSs X.nox st t):PSs X st t:=fun pins s σ H D I hw =>
 wpAny_mono (h pins s σ H D (I.wish _) hw) (fun _ _ q=>q.unwish) fun _ _ z=>False.elim z
end
section
variable {X:Cx} {st:Stmt} {rest:List Stmt} {t u:TS} {e:Expr} {te:TE} {pos:Pos}
noncomputable def tNext:TS:=fun D σ H=>D.nx σ H
noncomputable def tSeq (t u:TS):TS:=fun D σ H=>t { D with nx:=u D } σ H
theorem pss_nil:PSs X [] tNext:=fun _ _ σ H _ I h=>wpAny_execs_nil ⟨σ,H,I,h⟩
theorem fN (h1:PS X st t) (h2:PSs X rest u):PSs X (st::rest) (tSeq t u):=by
 intro pins s σ H D I h
 refine wpAny_execs_cons (thn (h1 pins s σ H { D with nx:=u D } I h) fun f s1 q=>?_)
 cases f with
 | next =>
  obtain ⟨σ',H',I',q⟩:=q
  exact h2 pins s1 σ' H' D I' q
 | ret v=>exact q
 | brk=>exact q
 | cont=>exact q
theorem pss_one (h1:PS X st t):PSs X [st] t:=by
 intro pins s σ H D I h
 refine wpAny_execs_cons (thn (h1 pins s σ H D I h) fun f s1 q=>?_)
 cases f with
 | next=>exact wpAny_execs_nil q
 | ret v=>exact q
 | brk=>exact q
 | cont=>exact q
theorem Inv.quiet {pins:List (Addr × Obj)} {σ:St} {H:Hp} {s:Shared} (I:Inv X pins σ H s):interactive X.env=false:=by simp [interactive,I.ok.kind]
noncomputable def iQ (te:TE):TS:=fun D σ H=>te σ H fun _ H1=>D.nx σ H1
theorem cv (he:PE X e te) (hs:swapsWith e none pos.line X.env=pure false:=by rfl):PS X (.Expr e pos) (iQ te):=by
 intro pins s σ H D I h
 exact wpAny_Expr_any (thn (he pins s σ H _ I h) fun v s1 ⟨x,H1,I1,r1,q1⟩=>⟨σ,H1,I1,q1⟩) I.quiet hs
noncomputable def tRet (te:TE):TS:=fun D σ H=>te σ H D.rt
theorem ps_ret (he:PE X e te):PS X (.Return (some e) pos) (tRet te):=by
 intro pins s σ H D I h
 exact wpAny_Return_some (thn (he pins s σ H _ I h) fun v s1 ⟨x,H1,I1,r1,q1⟩=>⟨x,σ,H1,I1,r1,q1⟩)
noncomputable def tIfS (c:TT) (t u:TS):TS:=fun D σ H=>c σ H fun b H1=>if b=true then t D σ H1 else u D σ H1
theorem ps_if {c:Expr} {a b:List Stmt} {tc:TT} (hc:PT X c tc) (ha:PSs X a t) (hb:PSs X b u):PS X (.If c a b pos) (tIfS tc t u):=by
 intro pins s σ H D I h
 refine wpAny_If (thn (hc pins s σ H _ I h) fun d s1 hh_=>?_)
 obtain ⟨H1,I1,q1⟩:=hh_
 cases d with
 | true=>exact ha pins s1 σ H1 D I1 q1
 | false=>exact hb pins s1 σ H1 D I1 q1
noncomputable def tNever:TS:=fun _ _ _=>False
theorem eB {sts:List Stmt}:PSs X sts tNever:=fun _ _ _ _ _ _ h=>h.elim
end
noncomputable abbrev TG:=V→St→Hp→(St→Hp→Prop)→Prop
noncomputable abbrev TGs:=List V→St→Hp→(St→Hp→Prop)→Prop
noncomputable def PG (X:Cx) (target:Expr) (t:TG):Prop :=
 ∀ (pins:List (Addr × Obj)) (s:Shared) (σ:St) (H:Hp) (v:V) (u:Value) (Q:St→Hp→Prop),Inv X pins σ H s→RelV v u→t v σ H Q →
  wpAny (model X.prog X.w) X.A (assign target X.env u) (fun _ s'=>NP X pins Q s') X.xe s
noncomputable def PGs (X:Cx) (ts:List Expr) (t:TGs):Prop :=
 ∀ (pins:List (Addr × Obj)) (s:Shared) (σ:St) (H:Hp) (vs:List V) (us:List Value) (Q:St→Hp→Prop),Inv X pins σ H s→Vals vs us→t vs σ H Q →
  wpAny (model X.prog X.w) X.A (assignInOrder ((assignEach ts X.env).map (·.2)) us) (fun _ s'=>NP X pins Q s') X.xe s
inductive IP (X:Cx) (pins:List (Addr × Obj)) (σ:St) (Q:Hp→Prop) (s':Shared):Prop
 | mk (H':Hp) (I:Inv X pins σ H' s') (q:Q H')
section
variable {X:Cx} {pos:Pos}
noncomputable def iE (i:Nat):TG:=fun v σ H Q=>Q (σ.set i (some v)) H
theorem aH {i:Nat} {x:Str} (hN:X.N.Nodup) (hi:X.N[i]?=some x) (hx:Loc X.env.scope x) (hf:X.fn x=true∨X.env.scope.names.lookup x=some .local:=by first | exact .inl rfl | exact .inr rfl | assumption):PG X (.Name x pos) (iE i):=by
 intro pins s σ H v u Q I r h
 exact wpAny_assign_Name (store_ok I hN hi hx r (fun s' I'=>⟨_,H,I',h⟩) hf)
noncomputable def gNil:TGs:=fun vs σ H Q=>vs=[]∧Q σ H
noncomputable def gCons (t:TG) (u:TGs):TGs:=fun vs σ H Q=>∃ v r,vs=v::r∧t v σ H fun σ' H'=>u r σ' H' Q
theorem ic:PGs X [] gNil:=by
 intro pins s σ H vs us Q I r h
 obtain ⟨e,h⟩:=h
 subst e
 cases r
 exact assignInOrder_nil ⟨σ,H,I,h⟩
theorem bW {e:Expr} {es:List Expr} {t:TG} {u:TGs} (h1:PG X e t) (h2:PGs X es u)
  (hs:(assignEach (e::es) X.env).map (·.2)=assign e X.env::(assignEach es X.env).map (·.2):=by rfl):PGs X (e::es) (gCons t u):=by
 intro pins s σ H vs us Q I r h
 obtain ⟨v,vr,e1,h⟩:=h
 subst e1
 cases r with
 | cons r rr =>
  rw [hs]
  refine assignInOrder_cons (thn (h1 pins s σ H _ _ _ I r h) fun _ s1 hh_=>?_)
  obtain ⟨σ1,H1,I1,q1⟩:=hh_
  exact h2 pins s1 σ1 H1 _ _ Q I1 rr q1
noncomputable def gTup (K:PySem.W.Frag) (n:Nat) (t:TGs):TG:=fun v σ H Q=>∃ a xs,v=.ref a∧SqT K H a xs∧xs.length=n∧t xs σ H Q
theorem pg_tup {es:List Expr} {k:Nat} {t:TGs} {n:Nat} (hc:X.calm=true) (h:PGs X es t)
  (hn:(assignEach es X.env).length=n:=by rfl) (hst:(assignEach es X.env).findIdx? (·.1)=none:=by rfl):PG X (.Tuple es k pos) (gTup X.K n t):=by
 intro pins s σ H v u Q I r hw
 obtain ⟨a,xs,e1,hq,hl,hw⟩:=hw
 subst e1
 subst r
 obtain ⟨its,rv,ht,hz⟩:=I.tuple hq
 refine assign_Tuple_tuple (I.ok.hd hc) ht (by simp [hn,← hl,rv.length]) hst fun h' hx=>?_
 have I1:Inv X pins σ H { s with heap:=h' }:=I.kept (t':=s.toks) fun b o e=>hx b o (Nat.ne_of_lt (Heap.lt_size e)) e
 exact h pins _ σ H xs _ Q I1 (by simpa using rv) hw
noncomputable def tAsg (te:TE) (g:TG):TS:=fun D σ H=>te σ H fun x H1=>g x σ H1 D.nx
theorem ps_asg {tg e:Expr} {te:TE} {g:TG} (he:PE X e te) (hg:PG X tg g) (hs:swapsWithSole [tg] e pos.line X.env=pure false:=by rfl) (hw:swappedStores [tg] e X.env=pure none:=by rfl)
  (h1:(assignEach [tg] X.env).map (·.2)=[assign tg X.env]:=by rfl):PS X (.Assign [tg] e pos) (tAsg te g):=by
 intro pins s σ H D I h
 refine wpAny_Assign_stores (thn (he pins s σ H _ I h) fun v s1 hh_=>?_) hs hw
 refine zz fun P_ k_=>?_
 obtain ⟨x,H1,I1,r1,q1⟩:=hh_
 refine k_ ?_
 rw [h1]
 exact thn (hg pins s1 σ H1 x v _ I1 r1 q1) fun _ s2 q=>q
theorem ps_set {i:Nat} {x:Str} {e:Expr} {te:TE} {pos':Pos} (hN:X.N.Nodup) (hi:X.N[i]?=some x) (hx:Loc X.env.scope x) (he:PE X e te) (hs:swapsWith e (some (.Name x pos')) pos.line X.env=pure false:=by rfl) (hf:X.fn x=true∨X.env.scope.names.lookup x=some .local:=by first | exact .inl rfl | exact .inr rfl | assumption) :
  PS X (.Assign [.Name x pos'] e pos) (tAsg te (iE i)):=by
 intro pins s σ H D I h
 refine wpAny_Assign_Name (thn (he pins s σ H _ I h) fun v s1 hh_=>?_) hs
 obtain ⟨y,H1,I1,r1,q1⟩:=hh_
 exact store_ok I1 hN hi hx r1 (fun s2 I2=>⟨_,H1,I2,q1⟩) hf
end
section
variable {X:Cx} {pos:Pos}
noncomputable def tWhile (c:TT) (tb:TS):TS:=fun D σ H=>∃ W:Nat→St→Hp→Prop,(∃ m,W m σ H)∧∀ m σ H,W m σ H →
 c σ H fun b H1=>if b=true then ∃ N:St→Hp→Prop,(∀ σ' H',N σ' H'→∃ m',m' < m∧W m' σ' H')∧tb { D with nx:=N,ct:=N,bk:=D.nx } σ H1 else D.nx σ H1
theorem ps_while {c:Expr} {body:List Stmt} {tc:TT} {tb:TS} (hp:PassesOwn (model X.prog X.w) X.A X.env X.xe) (hc:PT X c tc) (hb:PSs X body tb):PS X (.While c body [] pos) (tWhile tc tb):=by
 intro pins s σ H D I h
 refine zz fun P_ k_=>?_
 obtain ⟨W,⟨m0,w0⟩,turn⟩:=h
 refine k_ ?_
 refine wpAny_While (codeAny_whileLoop (fun n s'=>NP X pins (W n) s') ?_ m0 ⟨σ,H,I,w0⟩)
 rintro n s1 ⟨σ1,H1,I1,w1⟩
 refine wpAny_passesOwn hp (thn (hc pins s1 σ1 H1 _ I1 (turn n σ1 H1 w1)) fun b s2 hh_=>?_)
 obtain ⟨H2,I2,q2⟩:=hh_
 cases b with
 | true =>
  obtain ⟨N,hN,q2⟩:=q2
  rw [if_pos rfl]
  refine wpAny_passesOwn hp (thn (hb pins s2 σ1 H2 _ I2 q2) fun f s3 q3=>?_)
  cases f with
  | next =>
   refine zz fun P_ k_=>?_
   obtain ⟨σ3,H3,I3,n3⟩:=q3
   obtain ⟨m',hm,w3⟩:=hN σ3 H3 n3
   refine k_ ?_
   exact ⟨m',hm,σ3,H3,I3,w3⟩
  | cont =>
   refine zz fun P_ k_=>?_
   obtain ⟨σ3,H3,I3,n3⟩:=q3
   obtain ⟨m',hm,w3⟩:=hN σ3 H3 n3
   refine k_ ?_
   exact ⟨m',hm,σ3,H3,I3,w3⟩
  | brk=>exact q3
  | ret v=>exact q3
 | false =>
  rw [if_neg Bool.false_ne_true]
  exact wpAny_execs_nil ⟨σ1,H2,I2,q2⟩
end
structure It where
 go:Nat→Hp→Prop
 yld:Nat→Hp→V→Hp→Prop
 stop:Nat→Hp→Prop
noncomputable def FpOk (X:Cx) (pins:List (Addr × Obj)) (H:Hp) (b:Addr):Prop :=
 H b=none∧b≠X.env.locals∧b∉X.fs∧(b∈X.ex∨X.s₀.heap.objs.size≤b)∧(∀ x c,X.env.cells.lookup x=some c→c≠b)∧∀ p∈X.pn++pins,p.1≠b
theorem Inv.fpOk {X:Cx} {pins:List (Addr × Obj)} {σ:St} {H H':Hp} {s:Shared} {b:Addr} (I:Inv X pins σ H s) (hb:s.heap.objs.size≤b) (hn:H' b=none):FpOk X pins H' b:=by
 refine ⟨hn,Nat.ne_of_gt (Nat.lt_of_lt_of_le I.lt hb),I.nofs hb,.inr (Nat.le_trans I.sz hb),fun x c e z=>?_,fun p hp z=>?_⟩
 ·obtain ⟨v,q⟩:=I.cell x c e
  exact absurd (Nat.lt_of_lt_of_le q.lt (by rw [z]; exact hb)) (Nat.lt_irrefl _)
 ·exact absurd (Nat.lt_of_lt_of_le (Heap.lt_size (I.pin p hp).1) (by rw [z]; exact hb)) (Nat.lt_irrefl _)
inductive YP (X:Cx) (pins:List (Addr × Obj)) (σ:St) (u:Value) (y:V→Hp→Prop) (tn:Heap→Prop) (fp:List Addr) (s2:Shared):Prop
 | mk (x:V) (H':Hp) (I:Inv X pins σ H' s2) (r:RelV x u) (q:y x H') (st:tn s2.heap) (fr:∀ b∈fp,H' b=none)
structure Turn (P:Program) (w:World) (K:PySem.W.Frag) (tg:Expr) (J:It) (fp:List Addr) (it:Addr) (tn:Nat→Heap→Prop):Prop where
 mem:it∈fp
 obj:∀ i h,tn i h→∀ b∈fp,∃ o,h.get? b=some o∧∀ v,o.data ≠ .cell v
 keep:∀ i h h',tn i h→(∀ b∈fp,∀ o,h.get? b=some o→h'.get? b=some o)→tn i h'
 item:∀ (X:Cx),X.prog=P→X.w=w→X.K=K→X.calm=true→∀ (i:Nat) (pins:List (Addr × Obj)) (s:Shared) (σ:St) (H:Hp) (E:Value→Shared→Prop),Inv X pins σ H s→(∀ b∈fp,FpOk X pins H b)→tn i s.heap→J.go i H →
  wpAny (model P w) X.A (pyNext (.ref it)) (fun r s1=>∃ u,r=some u ∧
   wpAny (model P w) X.A (letOwnedTupleGo tg (.ref it) u) (fun _ s2=>YP X pins σ u (J.yld i H) (tn (i+1)) fp s2) E s1) E s
 done:∀ (X:Cx),X.prog=P→X.w=w→X.K=K→X.calm=true→∀ (i:Nat) (pins:List (Addr × Obj)) (s:Shared) (σ:St) (H:Hp) (E:Value→Shared→Prop),Inv X pins σ H s→(∀ b∈fp,FpOk X pins H b)→tn i s.heap→J.stop i H →
  wpAny (model P w) X.A (pyNext (.ref it)) (fun r s1=>r=none∧Inv X pins σ H s1) E s
 self:∀ (A:Around) (i:Nat) (s:Shared) (Q:Value→Shared→Prop) (E:Value→Shared→Prop),tn i s.heap→Q (.ref it) s→wpAny (model P w) A (pyIter (.ref it)) Q E s
noncomputable abbrev TI:=St→Hp→(It→Hp→Prop)→Prop
inductive PIE (X:Cx) (pins:List (Addr × Obj)) (σ:St) (tg:Expr) (R:It→Hp→Prop) (itv:Value) (s2:Shared):Prop
 | mk (it:Addr) (fp:List Addr) (tn:Nat→Heap→Prop) (J:It) (H':Hp) (e:itv=.ref it) (I:Inv X pins σ H' s2) (T:Turn X.prog X.w X.K tg J fp it tn) (st:tn 0 s2.heap) (f:∀ b∈fp,FpOk X pins H' b) (q:R J H')
noncomputable def PI (X:Cx) (tg iter:Expr) (wi:TI):Prop :=
 ∀ (pins:List (Addr × Obj)) (s:Shared) (σ:St) (H:Hp) (R:It→Hp→Prop),Inv X pins σ H s→wi σ H R →
  wpAny (model X.prog X.w) X.A (eval iter X.env) (fun v s1=>wpAny (model X.prog X.w) X.A (pyIter v) (PIE X pins σ tg R) X.xe s1) X.xe s
theorem go_of {M:Model} {A:Around} {E:Value→Shared→Prop} {s:Shared} {tg:Expr} {it:Addr} {u:Value} {o:Obj} {n:String} {vs:Array Value} {Q:Unit→Shared→Prop} (ho:s.heap.get? it=some o) (hc:o.cls=.type n) (hd:o.data=.fields vs)
  (hn : ["enumerate", "zip", "dict_itemiterator", "dict_reverseitemiterator", "odict_iterator", "itertools.zip_longest", "itertools.pairwise"].contains n = false) (hQ : Q () s) : wpAny M A (letOwnedTupleGo tg (.ref it) u) Q E s := by
 unfold letOwnedTupleGo
 cases tg <;> first
  | exact wpAny_pure hQ
  | (cases u <;> first
    | exact wpAny_pure hQ
    | (refine wpAny_bind (wpAny_load ho ?_)
       rw [hc,hd]
       show wpAny M A (if (["enumerate", "zip", "dict_itemiterator", "dict_reverseitemiterator", "odict_iterator", "itertools.zip_longest", "itertools.pairwise"].contains n && vs[0]? == some (rawInt _)) = true then _ else _) Q E s
       rw [if_neg (by intro h; rw [hn,Bool.false_and] at h; injection h)]
       exact wpAny_pure hQ))
noncomputable def Itl (K:PySem.W.Frag) (a:Addr):It :=
 ⟨fun i H=>∃ xs x,SqL K H a xs∧xs[i]?=some x,fun i H x H'=>H'=H∧∀ xs,SqL K H a xs→xs[i]?=some x,fun i H=>∃ xs,SqL K H a xs∧xs.length≤i⟩
noncomputable def Itt (K:PySem.W.Frag) (a:Addr):It :=
 ⟨fun i H=>∃ xs x,SqT K H a xs∧xs[i]?=some x,fun i H x H'=>H'=H∧∀ xs,SqT K H a xs→xs[i]?=some x,fun i H=>∃ xs,SqT K H a xs∧xs.length≤i⟩
theorem turn_list {P:Program} {w:World} {K:PySem.W.Frag} {tg:Expr} (a it:Addr):Turn P w K tg (Itl K a) [it] it (fun i h=>h.IsListIter it a i) where
 mem:=by simp
 obj:=fun i h st b hb=>by
  have e:b=it:=by simpa using hb
  subst e
  refine zz fun P_ k_=>?_
  obtain ⟨o,e,c,d⟩:=st
  refine k_ ?_
  exact ⟨o,e,fun v z=>by rw [d] at z; injection z⟩
 keep:=fun i h h' st k=>st.at fun o e=>k it (by simp) o e
 item:=by
  intro X hP hw hK hc i pins s σ H E I hf st hg
  subst hP hw hK
  refine zz fun P_ k_=>?_
  obtain ⟨xs,x,hq,hx⟩:=hg
  obtain ⟨its,rv,p,hz⟩:=I.list hq
  obtain ⟨u,hu,ru⟩:=rv.get hx
  obtain ⟨f0,f1,f2,f3,f4,f5⟩:=hf it (by simp)
  refine k_ ?_
  refine wpAny_pyNext_list_item st p.isList (x:=u) (by simpa using hu) fun h' st' sb=>?_
  have I1:Inv X pins σ H { s with heap:=h' }:=I.turned (t':=s.toks) (fun b o hb e=>(sb.2 b hb).trans e) f0 f1 f3 f4 f5
  refine zz fun P_ k_=>?_
  obtain ⟨o,e,c,d⟩:=id st'
  refine k_ ?_
  exact ⟨u,rfl,go_of (s:={ s with heap:=h' }) e c d (by decide) ⟨x,H,I1,ru,⟨rfl,fun ys hy=>by rw [I.list_inj hy hq]; exact hx⟩,st',fun b hb=>(hf b hb).1⟩⟩
 done:=by
  intro X hP hw hK hc i pins s σ H E I hf st hg
  subst hP hw hK
  refine zz fun P_ k_=>?_
  obtain ⟨xs,hq,hx⟩:=hg
  obtain ⟨its,rv,p,hz⟩:=I.list hq
  obtain ⟨f0,f1,f2,f3,f4,f5⟩:=hf it (by simp)
  refine k_ ?_
  have hl:=rv.length
  exact wpAny_pyNext_list_end (I.ok.hd hc) st p.isList (by simp; omega) fun h' eb=>⟨rfl,I.turned (t':=s.toks) (fun b o hb e=>eb b o hb e) f0 f1 f3 f4 f5⟩
 self:=fun _ _ _ _ _ st h=>wpAny_pyIter_listiter st h
theorem turn_tuple {P:Program} {w:World} {K:PySem.W.Frag} {tg:Expr} (a it:Addr):Turn P w K tg (Itt K a) [it] it (fun i h=>h.IsTupleIter it a i) where
 mem:=by simp
 obj:=fun i h st b hb=>by
  have e:b=it:=by simpa using hb
  subst e
  refine zz fun P_ k_=>?_
  obtain ⟨o,e,c,d⟩:=st
  refine k_ ?_
  exact ⟨o,e,fun v z=>by rw [d] at z; injection z⟩
 keep:=fun i h h' st k=>st.at fun o e=>k it (by simp) o e
 item:=by
  intro X hP hw hK hc i pins s σ H E I hf st hg
  subst hP hw hK
  refine zz fun P_ k_=>?_
  obtain ⟨xs,x,hq,hx⟩:=hg
  obtain ⟨its,rv,p,hz⟩:=I.tuple hq
  obtain ⟨u,hu,ru⟩:=rv.get hx
  obtain ⟨f0,f1,f2,f3,f4,f5⟩:=hf it (by simp)
  refine k_ ?_
  refine wpAny_pyNext_tuple_item st (show s.heap.IsTuple a its.toArray from p) (x:=u) (by simpa using hu) fun h' st' sb=>?_
  have I1:Inv X pins σ H { s with heap:=h' }:=I.turned (t':=s.toks) (fun b o hb e=>(sb.2 b hb).trans e) f0 f1 f3 f4 f5
  refine zz fun P_ k_=>?_
  obtain ⟨o,e,c,d⟩:=id st'
  refine k_ ?_
  exact ⟨u,rfl,go_of (s:={ s with heap:=h' }) e c d (by decide) ⟨x,H,I1,ru,⟨rfl,fun ys hy=>by rw [I.tuple_inj hy hq]; exact hx⟩,st',fun b hb=>(hf b hb).1⟩⟩
 done:=by
  intro X hP hw hK hc i pins s σ H E I hf st hg
  subst hP hw hK
  refine zz fun P_ k_=>?_
  obtain ⟨xs,hq,hx⟩:=hg
  obtain ⟨its,rv,p,hz⟩:=I.tuple hq
  obtain ⟨f0,f1,f2,f3,f4,f5⟩:=hf it (by simp)
  refine k_ ?_
  have hl:=rv.length
  exact wpAny_pyNext_tuple_end (I.ok.hd hc) st (show s.heap.IsTuple a its.toArray from p) (by simp; omega) fun h' eb=>⟨rfl,I.turned (t':=s.toks) (fun b o hb e=>eb b o hb e) f0 f1 f3 f4 f5⟩
 self:=fun _ _ _ _ _ st h=>wpAny_pyIter_tupleiter st h
end L2
namespace L2
open PySem PySem.Spec PyProof.Rows
section
variable {X:Cx} {tg:Expr}
noncomputable def iList (K:PySem.W.Frag) (tl:TE):TI:=fun σ H R=>tl σ H fun x H1=>∃ a,x=.ref a∧(∃ xs,SqL K H1 a xs)∧R (Itl K a) H1
noncomputable def iTup (K:PySem.W.Frag) (tl:TE):TI:=fun σ H R=>tl σ H fun x H1=>∃ a,x=.ref a∧(∃ xs,SqT K H1 a xs)∧R (Itt K a) H1
theorem pi_list {l:Expr} {tl:TE} (hl:PE X l tl):PI X tg l (iList X.K tl):=by
 intro pins s σ H R I h
 refine thn (hl pins s σ H _ I h) fun v s1 hh_=>?_
 obtain ⟨x,H1,I1,r1,q1⟩:=hh_
 obtain ⟨a,e,⟨xs,hq⟩,q⟩:=q1
 subst e
 subst r1
 obtain ⟨its,rv,p,hz⟩:=I1.list hq
 refine wpAny_pyIter_list p.isList ?_
 refine ⟨s1.heap.objs.size,[s1.heap.objs.size],_,_,H1,rfl,I1.kept (t':=s1.toks) fun b o e=>Heap.get?_push_of_some _ e,turn_list a _,⟨_,Heap.get?_push_size _ rfl,rfl,rfl⟩,fun b hb=>?_,q⟩
 have e:b=s1.heap.objs.size:=by simpa using hb
 subst e
 exact I1.fpOk (Nat.le_refl _) (I1.hok.fresh (Nat.le_refl _))
theorem pi_tup {l:Expr} {tl:TE} (hl:PE X l tl):PI X tg l (iTup X.K tl):=by
 intro pins s σ H R I h
 refine thn (hl pins s σ H _ I h) fun v s1 hh_=>?_
 obtain ⟨x,H1,I1,r1,q1⟩:=hh_
 obtain ⟨a,e,⟨xs,hq⟩,q⟩:=q1
 subst e
 subst r1
 obtain ⟨its,rv,p,hz⟩:=I1.tuple hq
 refine wpAny_pyIter_tuple (show s1.heap.IsTuple a its.toArray from p) ?_
 refine ⟨s1.heap.objs.size,[s1.heap.objs.size],_,_,H1,rfl,I1.kept (t':=s1.toks) fun b o e=>Heap.get?_push_of_some _ e,turn_tuple a _,⟨_,Heap.get?_push_size _ rfl,rfl,rfl⟩,fun b hb=>?_,q⟩
 have e:b=s1.heap.objs.size:=by simpa using hb
 subst e
 exact I1.fpOk (Nat.le_refl _) (I1.hok.fresh (Nat.le_refl _))
noncomputable def tFor (wi:TI) (g:TG) (tb:TS):TS:=fun D σ H=>wi σ H fun J H1=>∃ W:Nat→Nat→St→Hp→Prop,(∃ m,W 0 m σ H1)∧∀ i m σ H,W i m σ H →
 (J.stop i H∧D.nx σ H)∨(J.go i H∧∃ N:St→Hp→Prop,(∀ σ' H',N σ' H'→∃ m',m' < m∧W (i+1) m' σ' H')∧∀ x H',J.yld i H x H'→g x σ H' fun σ2 H2=>tb { D with nx:=N,ct:=N,bk:=D.nx } σ2 H2)
noncomputable def jc (fp:List Addr) (h:Heap):List (Addr × Obj):=fp.filterMap fun b=>(h.get? b).map fun o=>(b,o)
theorem eY {fp:List Addr} {h:Heap} {b:Addr} {o:Obj} (hb:b∈fp) (e:h.get? b=some o):(b,o)∈jc fp h:=List.mem_filterMap.mpr ⟨b,hb,by rw [e]; rfl⟩
theorem of_pinsAt {fp:List Addr} {h:Heap} {p:Addr × Obj} (hp:p∈jc fp h):p.1∈fp∧h.get? p.1=some p.2:=by
 obtain ⟨b,hb,e⟩:=List.mem_filterMap.mp hp
 cases q:h.get? b with
 | none=>rw [q] at e; injection e
 | some o =>
  rw [q] at e
  have e':(b,o)=p:=Option.some.inj e
  subst e'
  exact ⟨hb,q⟩
theorem Inv.pinned {pins:List (Addr × Obj)} {σ:St} {H:Hp} {s:Shared} {fp:List Addr} (I:Inv X pins σ H s) (hf:∀ b∈fp,FpOk X pins H b) (ho:∀ b∈fp,∃ o,s.heap.get? b=some o∧∀ v,o.data ≠ .cell v):Inv X (pins++jc fp s.heap) σ H s :=
 I.pins_of fun p hp=>(List.mem_append.mp hp).elim (fun z=>I.pin p (List.mem_append_right _ z)) fun z=>by
  obtain ⟨hb,e⟩:=of_pinsAt z
  obtain ⟨f0,f1,f2,_⟩:=hf p.1 hb
  obtain ⟨o,e',d⟩:=ho p.1 hb
  rw [e] at e'; (injection e' with e'; subst e')
  exact ⟨e,f0,f1,f2,d⟩
theorem Inv.unpinned {pins pl:List (Addr × Obj)} {σ:St} {H:Hp} {s:Shared} (I:Inv X (pins++pl) σ H s):Inv X pins σ H s:=I.pins_of fun p hp=>I.pin p (List.mem_append_right _ (List.mem_append_left _ hp))
inductive FI (X:Cx) (pins:List (Addr × Obj)) (tn:Nat→Heap→Prop) (fp:List Addr) (W:Nat→Nat→St→Hp→Prop) (n:Nat) (s:Shared):Prop
 | mk (i:Nat) (σ:St) (H:Hp) (I:Inv X pins σ H s) (st:tn i s.heap) (fr:∀ b∈fp,H b=none) (w:W i n σ H)
theorem ps_for {iter:Expr} {body:List Stmt} {wi:TI} {g:TG} {tb:TS} {pos:Pos} (hp:PassesOwn (model X.prog X.w) X.A X.env X.xe) (hc:X.calm=true) (hi:PI X tg iter wi) (hg:PG X tg g) (hb:PSs X body tb)
  (hs:∀ x,foldedSetIterable iter X.env x=pure x:=by intro _; rfl):PS X (.For tg iter body [] pos) (tFor wi g tb):=by
 intro pins s σ H D I h
 refine wpAny_For (thn (hi pins s σ H _ I h) fun v s1 h1=>thn h1 fun itv s2 h2=>?_) hs
 refine zz fun P_ k_=>?_
 obtain ⟨it,fp,tn,J,H2,e,I2,T,st2,f2,W,⟨m0,w0⟩,turn⟩:=h2
 refine k_ ?_
 subst e
 have stat:∀ {H':Hp},(∀ b∈fp,H' b=none)→∀ b∈fp,FpOk X pins H' b:=fun hn b hb=>⟨hn b hb,(f2 b hb).2⟩
 refine codeAny_forLoop_any (FI X pins tn fp W) ?_ m0 ⟨0,σ,H2,I2,st2,fun b hb=>(f2 b hb).1,w0⟩
 rintro n s3 ⟨i,σ3,H3,I3,st3,fr3,w3⟩
 rcases turn i n σ3 H3 w3 with ⟨stop,qn⟩ | ⟨go,N,hN,step⟩
 ·refine wpAny_passesOwn hp (thn (T.done X rfl rfl rfl hc i pins s3 σ3 H3 X.xe I3 (stat fr3) st3 stop) fun r s4 hh_=>?_)
  obtain ⟨hr,I4⟩:=hh_
  subst hr
  exact wpAny_execs_nil ⟨σ3,H3,I4,qn⟩
 ·refine wpAny_passesOwn hp (thn (T.item X rfl rfl rfl hc i pins s3 σ3 H3 X.xe I3 (stat fr3) st3 go) fun r s4 hh_=>?_)
  obtain ⟨u,hr,h4⟩:=hh_
  subst hr
  refine wpAny_passesOwn hp (thn h4 fun _ s5 hh_=>?_)
  refine zz fun P_ k_=>?_
  obtain ⟨x,H5,I5,r5,y5,st5,fr5⟩:=hh_
  refine k_ ?_
  have I5':=I5.pinned (stat fr5) (T.obj _ _ st5)
  refine wpAny_passesOwn hp (thn (hg _ s5 σ3 H5 x u _ I5' r5 (step x H5 y5)) fun _ s6 hh_=>?_)
  refine zz fun P_ k_=>?_
  obtain ⟨σ6,H6,I6,q6⟩:=hh_
  refine k_ ?_
  refine wpAny_passesOwn hp (thn (hb _ s6 σ6 H6 _ I6 q6) fun f s7 q7=>?_)
  have again:∀ {σ7:St} {H7:Hp},Inv X (pins++jc fp s5.heap) σ7 H7 s7→N σ7 H7→∃ m,m < n∧FI X pins tn fp W m s7:=fun {σ7 H7} I7 n7=>by
   obtain ⟨m',hm,w7⟩:=hN σ7 H7 n7
   refine ⟨m',hm,i+1,σ7,H7,I7.unpinned,T.keep _ _ _ st5 fun b hb o e=>(I7.pin (b,o) (List.mem_append_right _ (List.mem_append_right _ (eY hb e)))).1,fun b hb=>?_,w7⟩
   obtain ⟨o,e,d⟩:=T.obj _ _ st5 b hb
   exact (I7.pin (b,o) (List.mem_append_right _ (List.mem_append_right _ (eY hb e)))).2.1
  cases f with
  | next=>obtain ⟨σ7,H7,I7,n7⟩:=q7; exact again I7 n7
  | cont=>obtain ⟨σ7,H7,I7,n7⟩:=q7; exact again I7 n7
  | brk=>obtain ⟨σ7,H7,I7,q7⟩:=q7; exact ⟨σ7,H7,I7.unpinned,q7⟩
  | ret v=>obtain ⟨x7,σ7,H7,I7,r7,q7⟩:=q7; exact ⟨x7,σ7,H7,I7.unpinned,r7,q7⟩
end
end L2
namespace L2
open PySem PySem.Spec PyProof.Rows
noncomputable abbrev R2:=V→V→Hp→VK→Prop
noncomputable def OpR (X:Cx) (f:Value→Value→Sem Value) (r:R2):Prop :=
 ∀ (pins:List (Addr × Obj)) (s:Shared) (σ:St) (H:Hp) (x y:V) (v u:Value) (Q:VK),Inv X pins σ H s→RelV x v→RelV y u→r x y H Q →
  wpAny (model X.prog X.w) X.A (f v u) (EP X pins σ Q) X.xe s
noncomputable def UnR (X:Cx) (f:Value→Sem Value) (r:V→Hp→VK→Prop):Prop :=
 ∀ (pins:List (Addr × Obj)) (s:Shared) (σ:St) (H:Hp) (x:V) (v:Value) (Q:VK),Inv X pins σ H s→RelV x v→r x H Q →
  wpAny (model X.prog X.w) X.A (f v) (EP X pins σ Q) X.xe s
noncomputable def CallR (X:Cx) (f:Value) (r:List V→Hp→VK→Prop):Prop :=
 ∀ (pins:List (Addr × Obj)) (s:Shared) (σ:St) (H:Hp) (xs:List V) (us:List Value) (Q:VK),Inv X pins σ H s→Vals xs us→r xs H Q →
  wpAny (model X.prog X.w) X.A (call f us) (EP X pins σ Q) X.xe s
noncomputable def TruR (X:Cx) (r:V→Hp→(Bool→Hp→Prop)→Prop):Prop :=
 ∀ (pins:List (Addr × Obj)) (s:Shared) (σ:St) (H:Hp) (x:V) (v:Value) (Q:Bool→Hp→Prop),Inv X pins σ H s→RelV x v→r x H Q →
  wpAny (model X.prog X.w) X.A (truthy v) (TP X pins σ Q) X.xe s
noncomputable def tOp (r:R2) (ta tb:TE):TE:=fun σ H Q=>ta σ H fun x H1=>tb σ H1 fun y H2=>r x y H2 Q
noncomputable def tUn (r:V→Hp→VK→Prop) (ta:TE):TE:=fun σ H Q=>ta σ H fun x H1=>r x H1 Q
noncomputable def rI (C:Int→Int→Prop) (g:Int→Int→V):R2:=fun x y H Q=>∃ i j,x=.int i∧y=.int j∧C i j∧Q (g i j) H
noncomputable def rI0 (g:Int→Int→V):R2:=fun x y H Q=>∃ i j,x=.int i∧y=.int j∧Q (g i j) H
noncomputable def rU (g:Int→V):V→Hp→VK→Prop:=fun x H Q=>∃ i,x=.int i∧Q (g i) H
section
variable {X:Cx} {a b c:Expr} {ta tb tc:TE} {pos:Pos}
theorem binT (ha:PE X a ta) (hb:PE X b tb) {pins:List (Addr × Obj)} {s:Shared} {σ:St} {H:Hp} {R:V→V→Hp→Prop} (I:Inv X pins σ H s)
  (h:ta σ H fun x H1=>tb σ H1 fun y H2=>R x y H2) {Q:Value→Shared→Prop} {f:Value→Value→Sem Value}
  (hf:∀ v u s2 x y H2,Inv X pins σ H2 s2→RelV x v→RelV y u→R x y H2→wpAny (model X.prog X.w) X.A (f v u) Q X.xe s2) :
  wpAny (model X.prog X.w) X.A (eval a X.env) (fun v s₁=>wpAny (model X.prog X.w) X.A (eval b X.env) (fun u s₂=>wpAny (model X.prog X.w) X.A (f v u) Q X.xe s₂) X.xe s₁) X.xe s:=by
 refine thn (ha pins s σ H _ I h) fun v s1 hh_=>?_
 obtain ⟨x,H1,I1,r1,q1⟩:=hh_
 refine thn (hb pins s1 σ H1 _ I1 q1) fun u s2 hh_=>?_
 obtain ⟨y,H2,I2,r2,q2⟩:=hh_
 exact hf v u s2 x y H2 I2 r1 r2 q2
theorem pe_op {op:Operator} {r:R2} (ho:OpR X (binaryOp op) r) (ha:PE X a ta) (hb:PE X b tb):PE X (.BinOp a op b pos) (tOp r ta tb):=by
 intro pins s σ H Q I h
 exact wpAny_BinOp (binT ha hb I h fun v u s2 x y H2 I2 rx ry q=>ho pins s2 σ H2 x y v u Q I2 rx ry q)
theorem pe_un {op:UnaryOp} {r:V→Hp→VK→Prop} (ho:UnR X (unaryOp op) r) (ha:PE X a ta):PE X (.UnaryOp op a pos) (tUn r ta):=by
 intro pins s σ H Q I h
 exact UnaryOp_ (thn (ha pins s σ H _ I h) fun v s1 ⟨x,H1,I1,r1,q1⟩=>ho pins s1 σ H1 x v Q I1 r1 q1)
theorem opI {f:Value→Value→Sem Value} {C:Int→Int→Prop} {g:Int→Int→Int}
  (rule:∀ (i j:Int) (t u:Tok) (s:Shared) (Q:Value→Shared→Prop) (E:Value→Shared→Prop),C i j→Q (.int (g i j) s.toks) { s with toks:=s.toks+1 }→wpAny (model X.prog X.w) X.A (f (.int i t) (.int j u)) Q E s) :
  OpR X f (rI C fun i j=>.int (g i j)):=by
 intro pins s σ H x y v u Q I rx ry h
 obtain ⟨i,j,rfl,rfl,hc,q⟩:=h
 obtain ⟨t,rfl⟩:=rx
 obtain ⟨t',rfl⟩:=ry
 exact rule i j t t' s _ _ hc ⟨.int (g i j),H,I.tok _,⟨_,rfl⟩,q⟩
theorem opI0 {f:Value→Value→Sem Value} {g:Int→Int→Int}
  (rule:∀ (i j:Int) (t u:Tok) (s:Shared) (Q:Value→Shared→Prop) (E:Value→Shared→Prop),Q (.int (g i j) s.toks) { s with toks:=s.toks+1 }→wpAny (model X.prog X.w) X.A (f (.int i t) (.int j u)) Q E s) :
  OpR X f (rI0 fun i j=>.int (g i j)):=by
 intro pins s σ H x y v u Q I rx ry h
 obtain ⟨i,j,rfl,rfl,q⟩:=h
 obtain ⟨t,rfl⟩:=rx
 obtain ⟨t',rfl⟩:=ry
 exact rule i j t t' s _ _ ⟨.int (g i j),H,I.tok _,⟨_,rfl⟩,q⟩
theorem opB0 {f:Value→Value→Sem Value} {g:Int→Int→Bool}
  (rule:∀ (i j:Int) (t u:Tok) (s:Shared) (Q:Value→Shared→Prop) (E:Value→Shared→Prop),Q (.bool (g i j)) s→wpAny (model X.prog X.w) X.A (f (.int i t) (.int j u)) Q E s) :
  OpR X f (rI0 fun i j=>.bl (g i j)):=by
 intro pins s σ H x y v u Q I rx ry h
 obtain ⟨i,j,rfl,rfl,q⟩:=h
 obtain ⟨t,rfl⟩:=rx
 obtain ⟨t',rfl⟩:=ry
 exact rule i j t t' s _ _ ⟨.bl (g i j),H,I,rfl,q⟩
noncomputable def CDiv (i j:Int):Prop:=0 < j∧j < 1073741824
noncomputable def CPow (i j:Int):Prop:=0≤j∧j≤1000000∧i.natAbs < 2 ^ 64
noncomputable def CMul (i j:Int):Prop:=(-(2 ^ 64) < i∧i < 2 ^ 64)∨(-(2 ^ 64) < j∧j < 2 ^ 64)
theorem CMul.ok {i j:Int} (h:CMul i j):IntMulOk i j:=by
 rcases h with ⟨h1,h2⟩ | ⟨h1,h2⟩
 ·exact .of_left (intBits_le_64 h1 h2)
 ·exact .of_right (intBits_le_64 h1 h2)
theorem op_add:OpR X (binaryOp .Add) (rI0 fun i j=>.int (i+j)):=opI0 fun _ _ _ _ _ _ _ q=>add_int q
theorem op_sub:OpR X (binaryOp .Sub) (rI0 fun i j=>.int (i - j)):=opI0 fun _ _ _ _ _ _ _ q=>sub_int q
theorem op_mul:OpR X (binaryOp .Mult) (rI CMul fun i j=>.int (i * j)):=opI fun _ _ _ _ _ _ _ hc q=>mul_int q hc.ok
theorem op_fdiv:OpR X (binaryOp .FloorDiv) (rI CDiv fun i j=>.int (i / j)):=opI fun i j _ _ _ _ _ hc q=>by
 have h1:(0:Int) < j:=hc.1
 have h2:j < 1073741824:=hc.2
 exact floordiv_int (by omega) (by rw [Int.fdiv_eq_ediv_of_nonneg i (by exact Int.le_of_lt ‹_›)]; exact q) (.inl (PyProof.noPylong_small (by omega)))
theorem op_mod:OpR X (binaryOp .Mod) (rI (fun _ j=>0 < j) fun i j=>.int (i % j)):=opI fun i j _ _ _ _ _ hc q=>by
 have h1:(0:Int) < j:=hc
 exact mod_int' (by omega) (by rw [Int.fmod_eq_emod_of_nonneg i (by exact Int.le_of_lt ‹_›)]; exact q)
theorem op_pow:OpR X (binaryOp .Pow) (rI CPow fun i j=>.int (i ^ j.toNat)):=opI fun _ _ _ _ _ _ _ hc q=>pow_int_small hc.1 hc.2.1 hc.2.2 q
theorem unI {f:Value→Sem Value} {g:Int→Int}
  (rule:∀ (i:Int) (t:Tok) (s:Shared) (Q:Value→Shared→Prop) (E:Value→Shared→Prop),Q (.int (g i) s.toks) { s with toks:=s.toks+1 }→wpAny (model X.prog X.w) X.A (f (.int i t)) Q E s) :
  UnR X f (rU fun i=>.int (g i)):=by
 intro pins s σ H x v Q I rx h
 obtain ⟨i,rfl,q⟩:=h
 obtain ⟨t,rfl⟩:=rx
 exact rule i t s _ _ ⟨.int (g i),H,I.tok _,⟨_,rfl⟩,q⟩
theorem un_neg:UnR X (unaryOp .USub) (rU fun i=>.int (-i)):=unI fun _ _ _ _ _ q=>neg_int q
end
noncomputable def scal:V→V→Bool
 | .non,.non=>true | .non,.int _=>true | .int _,.non=>true | .non,.bl _=>true | .bl _,.non=>true | .non,.str _=>true | .str _,.non=>true
 | .int _,.int _=>true | .bl _,.bl _=>true | .str _,.str _=>true | .byt _,.byt _=>true
 | .int _,.str _=>true | .str _,.int _=>true | .bl _,.str _=>true | .str _,.bl _=>true
 | _,_=>false
noncomputable def rEq:R2:=fun x y H Q=>scal x y=true∧Q (.bl (decide (x=y))) H
theorem dec_int {i j:Int}:decide (V.int i=V.int j)=(i == j):=by
 rw [Bool.eq_iff_iff]
 simp
theorem dec_bl {i j:Bool}:decide (V.bl i=V.bl j)=(i == j):=by
 rw [Bool.eq_iff_iff]
 simp
theorem dec_str {i j:Str}:decide (V.str i=V.str j)=(i == j):=by
 rw [Bool.eq_iff_iff]
 simp
theorem dec_byt {i j:Array UInt8}:decide (V.byt i=V.byt j)=(i.toList == j.toList):=by
 rw [Bool.eq_iff_iff]
 cases i
 cases j
 simp
section
variable {X:Cx} {a b c:Expr} {ta tb tc:TE} {pos:Pos}
theorem cE {pins:List (Addr × Obj)} {σ:St} {H:Hp} {s:Shared} {Q:VK} {k k':Bool} (I:Inv X pins σ H s) (q:Q (.bl k) H) (e:k=k'):EP X pins σ Q (.bool k') s:=by
 subst e
 exact ⟨.bl k,H,I,rfl,q⟩
theorem op_eq:OpR X (compareOp .Eq) rEq:=by
 intro pins s σ H x y v u Q I rx ry h
 obtain ⟨hs,q⟩:=h
 cases x with
 | non =>
  subst rx
  cases y with
  | non=>subst ry; exact PySem.EqNone.eq_none_none (cE I q (by simp))
  | bl j=>subst ry; exact PySem.EqNone.eq_none_bool (cE I q (by simp))
  | int j=>obtain ⟨t',rfl⟩:=ry; exact PySem.EqNone.eq_none_int (cE I q (by simp))
  | str j=>obtain ⟨t',rfl⟩:=ry; exact PySem.EqNone.eq_none_str (cE I q (by simp))
  | _=>exact absurd (show false=true from hs) Bool.false_ne_true
 | bl i =>
  subst rx
  cases y with
  | non=>subst ry; exact PySem.EqNone.eq_bool_none (cE I q (by simp))
  | bl j=>subst ry; exact eq_bool (cE I q dec_bl)
  | str j=>obtain ⟨t',rfl⟩:=ry; exact PySem.EqMixed.eq_bool_str (cE I q (by simp))
  | _=>exact absurd (show false=true from hs) Bool.false_ne_true
 | int i =>
  obtain ⟨t,rfl⟩:=rx
  cases y with
  | non=>subst ry; exact PySem.EqNone.eq_int_none (cE I q (by simp))
  | int j=>obtain ⟨t',rfl⟩:=ry; exact eq_int (cE I q dec_int)
  | str j=>obtain ⟨t',rfl⟩:=ry; exact PySem.EqMixed.eq_int_str (cE I q (by simp))
  | _=>exact absurd (show false=true from hs) Bool.false_ne_true
 | str i =>
  obtain ⟨t,rfl⟩:=rx
  cases y with
  | non=>subst ry; exact PySem.EqNone.eq_str_none (cE I q (by simp))
  | bl j=>subst ry; exact PySem.EqMixed.eq_str_bool (cE I q (by simp))
  | int j=>obtain ⟨t',rfl⟩:=ry; exact PySem.EqMixed.eq_str_int (cE I q (by simp))
  | str j=>obtain ⟨t',rfl⟩:=ry; exact eq_str (cE I q dec_str)
  | _=>exact absurd (show false=true from hs) Bool.false_ne_true
 | byt i =>
  obtain ⟨t,rfl⟩:=rx
  cases y with
  | byt j=>obtain ⟨t',rfl⟩:=ry; exact PySem.W.eq_bytes (cE I q dec_byt)
  | _=>exact absurd (show false=true from hs) Bool.false_ne_true
 | _=>cases y <;> exact absurd (show false=true from hs) Bool.false_ne_true
theorem op_lt:OpR X (compareOp .Lt) (rI0 fun i j=>.bl (decide (i < j))):=opB0 fun _ _ _ _ _ _ _ q=>lt_int q
theorem op_le:OpR X (compareOp .LtE) (rI0 fun i j=>.bl (decide (i≤j))):=opB0 fun _ _ _ _ _ _ _ q=>le_int q
theorem op_gt:OpR X (compareOp .Gt) (rI0 fun i j=>.bl (decide (j < i))):=opB0 fun _ _ _ _ _ _ _ q=>gt_int q
theorem op_ge:OpR X (compareOp .GtE) (rI0 fun i j=>.bl (decide (j≤i))):=opB0 fun _ _ _ _ _ _ _ q=>ge_int q
theorem op_isN:OpR X (compareOp .Is) (fun x y H Q=>y=.non∧Q (.bl (decide (x=.non))) H):=by
 intro pins s σ H x y v u Q I rx ry h
 obtain ⟨rfl,q⟩:=h
 subst ry
 refine is_none_gen (cE I q ?_)
 cases x <;> first
  | (cases rx; rfl)
  | (obtain ⟨t,rfl⟩:=rx; rfl)
theorem op_notN:OpR X (compareOp .IsNot) (fun x y H Q=>y=.non∧Q (.bl (!decide (x=.non))) H):=by
 intro pins s σ H x y v u Q I rx ry h
 obtain ⟨rfl,q⟩:=h
 subst ry
 refine isnot_none_gen (cE I q ?_)
 cases x <;> first
  | (cases rx; rfl)
  | (obtain ⟨t,rfl⟩:=rx; rfl)
theorem pe_cmpR {op:CmpOp} {r:R2} (ho:OpR X (compareOp op) r) (ha:PE X a ta) (hb:PE X b tb) (hm:behindInMarks op b=false):PE X (.Compare a [op] [b] pos) (tOp r ta tb):=by
 intro pins s σ H Q I h
 exact wpAny_Compare1 (binT ha hb I h fun v u s2 x y H2 I2 rx ry q=>ho pins s2 σ H2 x y v u Q I2 rx ry q) hm
noncomputable def tTest (t:TE):TT:=fun σ H Q=>t σ H fun x H'=>∃ k,x=.bl k∧Q k H'
theorem pt_cmpR {op:CmpOp} {r:R2} (ho:OpR X (compareOp op) r) (ha:PE X a ta) (hb:PE X b tb) (hm:behindInMarks op b=false):PT X (.Compare a [op] [b] pos) (tTest (tOp r ta tb)):=by
 intro pins s σ H Q I h
 refine wpAny_isTrue_Compare1 (thn (ha pins s σ H _ I h) fun v s1 ⟨x,H1,I1,r1,q1⟩=>thn (hb pins s1 σ H1 _ I1 q1) fun u s2 ⟨y,H2,I2,r2,q2⟩ =>
  thn (ho pins s2 σ H2 x y v u _ I2 r1 r2 q2) fun c s3 ⟨z,H3,I3,r3,k,e,q3⟩=>?_) hm
 subst e
 subst r3
 exact wpAny_truthy_bool ⟨H3,I3,q3⟩
noncomputable def TruV (K:PySem.W.Frag) (x:V) (H:Hp) (k:Bool):Prop :=
 match x with
 | .non=>k=false
 | .bl b=>k=b
 | .int i=>k=(i != 0)
 | .str y=>y.length≤sizeLine∧k=((y.length:Int) != 0)
 | .byt y=>y.size≤sizeLine∧k=((y.size:Int) != 0)
 | .ref p=>(∃ xs,SqL K H p xs∧k = !xs.isEmpty)∨(∃ xs,SqT K H p xs∧k = !xs.isEmpty)∨∃ kvs,H p=some (.dK kvs)∧k = !kvs.isEmpty
 | _=>False
theorem isEmpty_kv {κ:Type} {kvs:List (κ × V)} {vs:List (κ × Value)} (r:KV kvs vs):(!vs.isEmpty) = !kvs.isEmpty:=by
 cases r <;> rfl
theorem jg {xs:List V} {its:List Value} (r:Vals xs its):(!its.toArray.isEmpty) = !xs.isEmpty:=by
 cases r <;> simp
theorem line63:(sizeLine:Nat) < 2 ^ 63:=by rw [sizeLine_eq]; decide
theorem tru_ok:TruR X (fun x H Q=>∃ k,TruV X.K x H k∧Q k H):=by
 intro pins s σ H x v Q I rx h
 obtain ⟨k,e,q⟩:=h
 have hl:=line63
 have hs:sizeLine=16777216:=sizeLine_eq
 cases x with
 | non =>
  subst rx
  have e':k=false:=e
  subst e'
  exact truthy_none ⟨H,I,q⟩
 | bl b =>
  subst rx
  have e':k=b:=e
  subst e'
  exact wpAny_truthy_bool ⟨H,I,q⟩
 | int i =>
  obtain ⟨t,rfl⟩:=rx
  have e':k=(i != 0):=e
  subst e'
  exact PySem.P.truthy_int ⟨H,I,q⟩
 | str y =>
  obtain ⟨t,rfl⟩:=rx
  obtain ⟨hy,e'⟩:y.length≤sizeLine∧k=((y.length:Int) != 0):=e
  subst e'
  exact PySem.P.truthy_str (by omega) ⟨H,I.tok _,q⟩
 | byt y =>
  obtain ⟨t,rfl⟩:=rx
  obtain ⟨hy,e'⟩:y.size≤sizeLine∧k=((y.size:Int) != 0):=e
  subst e'
  exact PySem.W.truthy_bytes (by exact Nat.le_trans ‹_› (by decide)) ⟨H,I.tok _,q⟩
 | ref p =>
  subst rx
  have e':(∃ xs,SqL X.K H p xs∧k = !xs.isEmpty)∨(∃ xs,SqT X.K H p xs∧k = !xs.isEmpty)∨∃ kvs,H p=some (.dK kvs)∧k = !kvs.isEmpty:=e
  rcases e' with ⟨xs,hx,e'⟩ | ⟨xs,hx,e'⟩ | ⟨kvs,hx,e'⟩
  ·subst e'
   obtain ⟨its,r,pl,hz⟩:=I.list hx
   have hlen:=r.length
   exact wpAny_truthy_list pl.isList (by simp only [List.size_toArray]; omega) ⟨H,I.tok _,by rw [jg r]; exact q⟩
  ·subst e'
   obtain ⟨its,r,pl,hz⟩:=I.tuple hx
   have hlen:=r.length
   exact truthy_tuple pl (by simp only [List.size_toArray]; omega) ⟨H,I.tok _,by rw [jg r]; exact q⟩
  ·subst e'
   obtain ⟨hz,hS,vs,r,m⟩:=I.hok p _ hx
   have hlen:kvs.length=vs.length:=Paired.length r
   exact wpAny_truthy_dict hS m (by omega) ⟨H,I.tok _,by rw [isEmpty_kv r]; exact q⟩
 | _=>exact (show False from e).elim
theorem pt_truth (ha:PE X a ta) (he:∀ whole,isTrue a X.env whole=(do let v ← whole; standAt a.pos; holding [v] (truthy v))) :
  PT X a (fun σ H Q=>ta σ H fun x H'=>∃ k,TruV X.K x H' k∧Q k H'):=by
 intro pins s σ H Q I h
 exact isTrue_plain (thn (ha pins s σ H _ I h) fun v s1 ⟨x,H1,I1,r1,q1⟩=>tru_ok pins s1 σ H1 x v Q I1 r1 q1) (he _)
theorem gT {x:V} {us:List Value} (r:Vals [x] us):∃ u,us=[u]∧RelV x u:=by
 cases r with
 | cons r1 r2=>cases r2; exact ⟨_,rfl,r1⟩
end
end L2
namespace L2
open PySem PySem.Spec PyProof.Rows
structure ObjM (h:Heap) (x dx C:Addr) (mA:Str→Option Value):Prop where
 obj:h.get? x=some (PySem.W.instObj C dx)
 ns:h.Ns1 dx mA
 ne:dx≠x
set_option tactic.hygienic true in
theorem lookIn_ns {h:Heap} {dx:Addr} {mA:Str→Option Value} (n:h.Ns1 dx mA):∃ od,h.get? dx=some od∧∀ name,PySem.W.lookIn name od=some (mA name):=by
 obtain ⟨o,es,ep,ho,hd,hk,_,hm⟩:=n
 refine ⟨o,ho,fun name=>?_⟩
 have e:=hm name
 unfold nsFind findBy at e
 rw [← Array.find?_toList] at e
 unfold PySem.W.lookIn
 rw [hd]
 dsimp only
 split
 ·rename_i y q
  rw [q] at e
  exact congrArg some e
 ·rename_i q
  rw [q] at e
  have a:es.toList.any (·.refKey)=false:=by
   rw [List.any_eq_false]
   intro y hy
   obtain ⟨z,t,hkey⟩:=hk y (Array.mem_toList_iff.mp hy)
   simp [DictEntry.refKey,hkey]
  have a':¬ es.toList.any (·.refKey)=true:=by rw [a]; exact Bool.false_ne_true
  rw [if_neg a']
  exact congrArg some e
theorem ObjM.look {h:Heap} {x dx C:Addr} {mA:Str→Option Value} (I:ObjM h x dx C mA):∃ od,PySem.W.InstAt h x (PySem.W.instObj C dx) C (some od)∧∀ name,PySem.W.lookIn name od=some (mA name) :=
 let ⟨od,ho,hl⟩:=lookIn_ns I.ns
 ⟨od,⟨I.obj,rfl,rfl,ho⟩,hl⟩
section
variable {prog:Program} {w:World} {A:Around} {E:Value→Shared→Prop} {s:Shared} {K:PySem.W.Frag} {x dx C f:Addr} {mA:Str→Option Value} {name:Str} {v:Value}
theorem get_map {expr:Bool} {Q:Value→Shared→Prop} (X:K.In s.heap) (I:ObjM s.heap x dx C mA) (hg:PySem.W.plainGet K C name=true) (hh:PySem.W.hasDictIn K C=true)
  (ha:PySem.W.findIn K (.ref C) name=some none) (hv:mA name=some v) (hv':PySem.W.handedIn v=true) (h:Q v { s with toks:=s.toks+1 }) :
  wpAny (model prog w) A (getAttr (.ref x) name expr) Q E s:=by
 obtain ⟨od,J,hl⟩:=I.look
 exact PySem.W.get_value X J (PySem.W.plainGet_of hg).1 (PySem.W.findObj_own hh ha rfl (by rw [hl,hv])) hv' h
theorem get_meth {pl:Sem Bool} {Q:Value × List Value→Shared→Prop} (X:K.In s.heap) (I:ObjM s.heap x dx C mA) (hg:PySem.W.plainGet K C name=true)
  (hf:PySem.W.findIn K (.ref C) name=some (some (.ref f))) (ht:PySem.W.isFn K (.ref f)=true) (hv:mA name=none) (h:Q (.ref f,[.ref x]) s) :
  wpAny (model prog w) A (getMethod (.ref x) name pl) Q E s:=by
 obtain ⟨od,J,hl⟩:=I.look
 exact PySem.W.method_fn X J (PySem.W.plainGet_of hg).1 (PySem.W.plainGet_of hg).2 hf (beq_iff_eq.mp ht) (by show (PySem.W.lookIn name od).map (·.isSome)=some false; rw [hl,hv]; rfl) h
theorem set_map {ns:List Str} {Q:Unit→Shared→Prop} (X:K.In s.heap) (I:ObjM s.heap x dx C mA)
  (hs : PySem.W.findIn K (.ref C) "__setattr__" = some (some (.builtin "object.__setattr__"))) (hp : PySem.W.plainOver K C = true) (ht : PySem.W.takerIn K C name = some none) (hh : PySem.W.hasDictIn K C = true)
  (hw:PySem.Within mA ns) (hsz:ns.length≤sizeLine)
  (h:∀ h',ObjM h' x dx C (fun y=>if y=name then some v else mA y)→Heap.SameBut dx s.heap h'→Q () { s with heap:=h',toks:=s.toks+2 }) :
  wpAny (model prog w) A (setAttr (.ref x) name v) Q E s:=by
 obtain ⟨od,J,hl⟩:=I.look
 refine PySem.W.set_plain X J hs (PySem.W.osa_open (s:={ s with toks:=s.toks+1 }) (r:=none) X J hp ht fun b=>?_)
 obtain ⟨cd,hc,hd'⟩:=PySem.W.any_some hh
 have hx:s.heap.get? x=some ⟨.ref C,some dx,.plain,#[]⟩:=I.obj
 refine wpAny_bind (wpAny_pure (wpAny_bind (wpAny_bind (wpAny_loadPart hx (wpAny_bind (PySem.W.Looks.here (s:={ s with toks:=s.toks+1 }) (PySem.W.looks_clsIn X hc) ?_))))))
 rw [hd']
 refine wpAny_pure (a:=some dx) (wpAny_bind (wpAny_pure (wpAny_bind ?_)))
 refine wpAny_nsSet1 (s:={ s with toks:=s.toks+1 }) I.ns fun h' hn2 hs2=>?_
 refine zz fun P_ k_=>?_
 obtain ⟨oD,esD,epD,hoD,hdD,hcD⟩:=hn2.count (PySem.Within.cons name v hw)
 refine k_ ?_
 refine wpAny_bind (wpAny_lookBehind hoD (by rw [hdD]; exact pastItsLine_dict (Nat.le_trans hcD (by rw [List.length_cons]; exact Nat.lt_succ_of_le ‹_›))) ?_)
 exact wpAny_pure (h _ ⟨(hs2.2 _ (Ne.symm I.ne)).trans I.obj,hn2,I.ne⟩ hs2)
theorem make_map {R:Result→Shared→Prop} {vs:List Value} {kw:List (Str × Value)} (X:K.In s.heap) (hm:PySem.W.makesIn K C=true)
  (hi : PySem.W.findIn K (.ref C) "__init__" = some (some (.ref f))) (hf : PySem.W.typeIn K (.ref f) = some (.type "function"))
  (h : codeAny (model prog w) (A.under (.builtin "type.__call__" ⟨.ref C :: vs, kw⟩)) (.call (.ref f) ⟨.ref (s.heap.objs.size + 1) :: vs, kw⟩) (PySem.W.InitBack (s.heap.objs.size + 1) R)
   { s with heap:=(s.heap.push PySem.W.emptyDict).push (PySem.W.instObj C s.heap.objs.size) }) :
  codeAny (model prog w) A (.call (.ref C) ⟨vs,kw⟩) R s:=by
 obtain ⟨hh,g,d,t,os⟩:=s
 exact PySem.W.make_core (PySem.W.makes_of X hm) (PySem.W.looks_findIn X hi) (fun self=>PySem.W.bind_fn X self hf) (.inl rfl) h
end
noncomputable def putF (f:Str) (v:V):List (Str × V)→List (Str × V)
 | []=>[(f,v)]
 | (g,x)::r=>if g=f then (g,v)::r else (g,x)::putF f v r
theorem lookup_putF (f g:Str) (v:V):∀ fs:List (Str × V),(putF f v fs).lookup g=if g=f then some v else fs.lookup g:=by
 intro x_0
 induction x_0 with
 | nil =>
  show List.lookup g [(f,v)]=_
  by_cases h:g=f
  ·have hb:(g == f)=true:=beq_iff_eq.mpr h
   simp only [List.lookup,hb,if_pos h]
  ·have hb:(g == f)=false:=beq_eq_false_iff_ne.mpr h
   simp only [List.lookup,hb,if_neg h]
 | cons p_0 r ih_ =>
  obtain ⟨k,x⟩:=p_0
  have ih:=ih_
  rw [show putF f v ((k,x)::r)=(if k=f then (k,v)::r else (k,x)::putF f v r) from rfl]
  by_cases hk:k=f
  ·rw [if_pos hk]
   by_cases h:g=k
   ·have hb:(g == k)=true:=beq_iff_eq.mpr h
    simp only [List.lookup,hb,if_pos (h.trans hk)]
   ·have hb:(g == k)=false:=beq_eq_false_iff_ne.mpr h
    simp only [List.lookup,hb,if_neg (fun e:g=f=>h (e.trans hk.symm))]
  ·rw [if_neg hk]
   by_cases h:g=k
   ·have hb:(g == k)=true:=beq_iff_eq.mpr h
    simp only [List.lookup,hb,if_neg (fun e:g=f=>hk (h.symm.trans e))]
   ·have hb:(g == k)=false:=beq_eq_false_iff_ne.mpr h
    simp only [List.lookup,hb]
    exact ih
theorem keys_putF (f:Str) (v:V):∀ fs:List (Str × V),f∈(putF f v fs).map (·.1)∧∀ g,g∈fs.map (·.1)→g∈(putF f v fs).map (·.1):=by
 intro x_0
 induction x_0 with
 | nil =>
  exact ⟨by simp [putF],fun g h=>by simp at h⟩
 | cons p_0 r ih_ =>
  obtain ⟨k,x⟩:=p_0
  obtain ⟨i1,i2⟩:=ih_
  rw [show putF f v ((k,x)::r)=(if k=f then (k,v)::r else (k,x)::putF f v r) from rfl]
  by_cases hk:k=f
  ·rw [if_pos hk]
   subst hk
   exact ⟨by simp,fun g h=>by simpa using h⟩
  ·rw [if_neg hk]
   refine ⟨?_,fun g h=>?_⟩
   ·rw [List.map_cons]
    exact List.mem_cons_of_mem _ i1
   ·rw [List.map_cons] at h ⊢
    rcases List.mem_cons.mp h with e | e
    ·exact List.mem_cons.mpr (.inl e)
    ·exact List.mem_cons_of_mem _ (i2 g e)
theorem length_putF (f:Str) (v:V):∀ fs:List (Str × V),(putF f v fs).length≤fs.length+1:=by
 intro x_0
 induction x_0 with
 | nil =>
  simp [putF]
 | cons p_0 r ih_ =>
  obtain ⟨k,x⟩:=p_0
  have ih:=ih_
  rw [show putF f v ((k,x)::r)=(if k=f then (k,v)::r else (k,x)::putF f v r) from rfl]
  by_cases hk:k=f
  ·rw [if_pos hk,List.length_cons,List.length_cons]; exact Nat.le_add_right _ _
  ·rw [if_neg hk,List.length_cons,List.length_cons]; exact Nat.lt_succ_of_le ‹_›
theorem RelO.some_of {v:V} {o:Option Value} (r:RelO (some v) o):∃ u,o=some u∧RelV v u:=by
 cases o with
 | none=>exact (show False from r).elim
 | some u=>exact ⟨u,rfl,r⟩
theorem RelO.none_of {o:Option Value} (r:RelO none o):o=none:=by
 cases o with
 | none=>rfl
 | some u=>exact (show False from r).elim
theorem handed_of {v:V} {u:Value} (r:RelV v u):PySem.W.handedIn u=true:=by
 cases v with
 | non=>cases (show u=Value.none from r); rfl
 | bl b=>cases (show u=Value.bool b from r); rfl
 | int i=>obtain ⟨t,e⟩:=(show ∃ t,u=Value.int i t from r); subst e; rfl
 | str x=>obtain ⟨t,e⟩:=(show ∃ t,u=Value.str x t from r); subst e; rfl
 | byt b=>obtain ⟨t,e⟩:=(show ∃ t,u=Value.bytes b t from r); subst e; rfl
 | flt b=>obtain ⟨t,e⟩:=(show ∃ t,u=Value.float b t from r); subst e; rfl
 | ref a=>cases (show u=Value.ref a from r); rfl
 | ty n=>cases (show u=Value.type n from r); rfl
section
variable {P:Program} {w:World} {H H':Hp} {h h':Heap} {a C dx:Addr} {fs fs':List (Str × V)}
theorem j0 (hok:HOk P w H h) (e:H a=some (.ins C dx fs)):∃ mA,ObjM h a dx C mA∧(∀ f,RelO (fs.lookup f) (mA f))∧PySem.Within mA (fs.map (·.1))∧fs.length≤1000∧H dx=some (.own a):=by
 refine zz fun P_ k_=>?_
 obtain ⟨d,z,ne,ob,mA,n,r,q⟩:=(show ce P w H h a (.ins C dx fs) from hok a _ e)
 refine k_ ?_
 exact ⟨mA,⟨ob,n,ne⟩,r,q,z,d⟩
end
structure Cls (K:PySem.W.Frag) (C:Addr):Prop where
 pg:PySem.W.plainGet K C Str.empty=true
 hd:PySem.W.hasDictIn K C=true
 po:PySem.W.plainOver K C=true
 sa : PySem.W.findIn K (.ref C) "__setattr__" = some (some (.builtin "object.__setattr__"))
theorem Cls.get {K:PySem.W.Frag} {C:Addr} (c:Cls K C) (f:Str):PySem.W.plainGet K C f=true:=c.pg
noncomputable def d4 (K:PySem.W.Frag) (C:Addr) (f:Str):Prop:=PySem.W.findIn K (.ref C) f=some none
theorem d4.taker {K:PySem.W.Frag} {C:Addr} {f:Str} (n:d4 K C f):PySem.W.takerIn K C f=some none:=by
 unfold PySem.W.takerIn
 rw [show PySem.W.findIn K (.ref C) f=some none from n]
 rfl
structure Meth (K:PySem.W.Frag) (C:Addr) (m:Str) (f:Addr):Prop where
 at_:PySem.W.findIn K (.ref C) m=some (some (.ref f))
 fn:PySem.W.isFn K (.ref f)=true
 kp:PySem.W.keepIn K (.ref f)=true
section
variable {X:Cx} {pins:List (Addr × Obj)} {σ:St} {H:Hp} {s:Shared} {a C dx:Addr} {fs:List (Str × V)} {f:Str} {v:V} {A:Around} {E:Value→Shared→Prop}
theorem getattr_ok {b:Bool} {Q:Value→Shared→Prop} (I:Inv X pins σ H s) (e:H a=some (.ins C dx fs)) (c:Cls X.K C) (n:d4 X.K C f) (l:fs.lookup f=some v)
  (h:∀ u s',Inv X pins σ H s'→RelV v u→Q u s'):wpAny (model X.prog X.w) A (getAttr (.ref a) f b) Q E s:=by
 obtain ⟨mA,O,r,_,_,_⟩:=j0 I.hok e
 obtain ⟨u,hu,ru⟩:=RelO.some_of (v:=v) (o:=mA f) (by rw [← l]; exact r f)
 exact get_map I.kIn O (c.get f) c.hd n hu (handed_of ru) (h u _ (I.tok _) ru)
theorem jl {m:Str} {g:Addr} {pl:Sem Bool} {Q:Value × List Value→Shared→Prop} (I:Inv X pins σ H s) (e:H a=some (.ins C dx fs)) (c:Cls X.K C) (k:Meth X.K C m g) (l:fs.lookup m=none)
  (h:Q (.ref g,[.ref a]) s):wpAny (model X.prog X.w) A (getMethod (.ref a) m pl) Q E s:=by
 obtain ⟨mA,O,r,_,_,_⟩:=j0 I.hok e
 have hn:mA m=none:=RelO.none_of (by rw [← l]; exact r m)
 exact get_meth I.kIn O (c.get m) k.at_ k.fn hn h
theorem setattr_ok {y:V} {u:Value} {Q:Unit→Shared→Prop} (I:Inv X pins σ H s) (e:H a=some (.ins C dx fs)) (c:Cls X.K C) (n:d4 X.K C f) (hl:fs.length < 1000) (ry:RelV y u)
  (h:∀ s',Inv X pins σ (upd H a (.ins C dx (putF f y fs))) s'→Q () s'):wpAny (model X.prog X.w) A (setAttr (.ref a) f u) Q E s:=by
 obtain ⟨mA,O,r,wi,_,ho⟩:=j0 I.hok e
 have hz:(fs.map (·.1)).length≤sizeLine:=by rw [List.length_map,sizeLine_eq]; exact Nat.le_trans ‹_› (by decide)
 refine set_map I.kIn O c.sa c.po n.taker c.hd wi hz fun h' O' sb=>h _ ?_
 have hd:∃ o,h'.get? dx=some o:=let ⟨o,_,_,e',_⟩:=O'.ns; ⟨o,e'⟩
 refine I.write (x:=a) (e:=dx) (by rw [e]; exact True.intro) (.inr ho) (fun b q hb z=>(sb.2 b hb).trans z) hd ?_
 refine ⟨by rw [aj O.ne]; exact ho, ?_,O.ne,O'.obj,_,O'.ns,fun g=>?_,fun g hg=>?_⟩
 ·have:=length_putF f y fs; exact Nat.le_trans ‹_› ‹_›
 ·show RelO ((putF f y fs).lookup g) (if g=f then some u else mA g)
  rw [lookup_putF]
  by_cases q:g=f
  ·rw [if_pos q,if_pos q]; exact ry
  ·rw [if_neg q,if_neg q]; exact r g
 ·by_cases q:g=f
  ·rw [q]; exact (keys_putF f y fs).1
  ·refine (keys_putF f y fs).2 g (wi g fun z=>hg ?_)
   show (if g=f then some u else mA g)=none
   rw [if_neg q]; exact z
theorem Inv.made (I:Inv X pins σ H s):Inv X pins σ (upd (upd H s.heap.objs.size (.own (s.heap.objs.size+1))) (s.heap.objs.size+1) (.ins C s.heap.objs.size []))
  { s with heap:=(s.heap.push PySem.W.emptyDict).push (PySem.W.instObj C s.heap.objs.size) }:=by
 have e1:(s.heap.push PySem.W.emptyDict).get? s.heap.objs.size=some PySem.W.emptyDict:=Heap.get?_push_size s.heap rfl
 have e2:((s.heap.push PySem.W.emptyDict).push (PySem.W.instObj C s.heap.objs.size)).get? (s.heap.objs.size+1)=some (PySem.W.instObj C s.heap.objs.size):=by
  have:=Heap.get?_push_size (s.heap.push PySem.W.emptyDict) (o:=PySem.W.instObj C s.heap.objs.size) rfl
  rwa [Heap.size_push] at this
 have e3:(s.heap.push PySem.W.emptyDict).Ns s.heap.objs.size (fun _=>none):=⟨PySem.W.emptyDict,#[],_,e1,rfl,(fun e he=>absurd he (by simp)),fun _=>rfl⟩
 have I1:=I.laid (a:=s.heap.objs.size) (o:=.own (s.heap.objs.size+1)) (h':=s.heap.push PySem.W.emptyDict) (t':=s.toks) (fun b u q=>Heap.get?_push_of_some _ q) (Nat.le_refl _) ⟨_,e1⟩
 refine I1.laid (a:=s.heap.objs.size+1) (o:=.ins C s.heap.objs.size []) (t':=s.toks) (fun b u q=>Heap.get?_push_of_some _ q) (Nat.le_of_eq (Heap.size_push _ _)) ?_
 have ne:s.heap.objs.size≠s.heap.objs.size+1:=Nat.ne_of_lt (Nat.lt_succ_self _)
 refine ⟨by rw [aj ne,ao],Nat.zero_le _,ne,e2,fun _=>none,(Heap.Ns1.of_empty e3).at fun o q=>Heap.get?_push_of_some _ q,fun _=>True.intro,fun y hy=>absurd rfl hy⟩
theorem attr_of {prog:Program} {w:World} {env:Env} {e:Expr} {f:Str} {pos:Pos} {s:Shared} {Q:Value→Shared→Prop} (hb:attributeBase e f env (eval e env)=eval e env)
  (h:wpAny (model prog w) A (eval e env) (fun o s₁=>wpAny (model prog w) A (getAttr o f true) Q E s₁) E s):wpAny (model prog w) A (eval (.Attribute e f pos) env) Q E s :=
 Attribute_any_ h (by rw [arm_eval_Attribute,hb])
end
noncomputable def tFld (K:PySem.W.Frag) (ta:TE) (f:Str):TE:=fun σ H Q=>ta σ H fun x H1=>∃ a C dx fs v,x=.ref a∧H1 a=some (.ins C dx fs)∧Cls K C∧d4 K C f∧fs.lookup f=some v∧Q v H1
noncomputable def sFld (K:PySem.W.Frag) (ta tv:TE) (f:Str):TS:=fun D σ H=>tv σ H fun y H1=>ta σ H1 fun x H2=>∃ a C dx fs,x=.ref a∧H2 a=some (.ins C dx fs)∧Cls K C∧d4 K C f∧fs.length < 1000 ∧
 D.nx σ (upd H2 a (.ins C dx (putF f y fs)))
section
variable {X:Cx} {o e value:Expr} {f:Str} {pos pos' tpos:Pos} {ta tv:TE}
theorem pe_fld (he:PE X e ta) (hb:attributeBase e f X.env (eval e X.env)=eval e X.env):PE X (.Attribute e f pos) (tFld X.K ta f):=by
 intro pins s σ H Q I h
 refine attr_of hb (thn (he pins s σ H _ I h) fun u s1 hh_=>?_)
 refine zz fun P_ k_=>?_
 obtain ⟨x,H1,I1,rx,a,C,dx,fs,v,ex,ea,c,n,l,q⟩:=hh_
 refine k_ ?_
 subst ex
 obtain rfl:u=Value.ref a:=rx
 exact getattr_ok I1 ea c n l fun u' s2 I2 ru=>⟨v,H1,I2,ru,q⟩
theorem ps_fld (ha:PE X o ta) (hv:PE X value tv) (hs:swapsWith value (some (.Attribute o f pos')) pos.line X.env=pure false):PS X (.Assign [.Attribute o f pos'] value pos) (sFld X.K ta tv f):=by
 intro pins s σ H D I h
 refine plainObj_wpAny_Assign_Attribute (thn (hv pins s σ H _ I h) fun u s1 ⟨y,H1,I1,ry,q⟩=>thn (ha pins s1 σ H1 _ I1 q) fun ov s2 hh_=>?_) hs
 refine zz fun P_ k_=>?_
 obtain ⟨x,H2,I2,rx,a,C,dx,fs,ex,ea,c,n,l,q2⟩:=hh_
 refine k_ ?_
 subst ex
 obtain rfl:ov=Value.ref a:=rx
 exact setattr_ok I2 ea c n l ry fun s3 I3=>⟨σ,_,I3,q2⟩
end
section
variable {X:Cx} {pins:List (Addr × Obj)} {σ:St} {H:Hp} {s:Shared} {A:Around} {E:Value→Shared→Prop} {Q:Value→Shared→Prop} {c:Value} {b:Bool}
inductive TyOf (K:PySem.W.Frag) (H:Hp):V→Value→Prop where
 | non : TyOf K H .non (.type "NoneType")
 | bl (x : Bool) : TyOf K H (.bl x) (.type "bool")
 | int (i : Int) : TyOf K H (.int i) (.type "int")
 | str (x : Str) : TyOf K H (.str x) (.type "str")
 | flt (x : UInt64) : TyOf K H (.flt x) (.type "float")
 | lst {a : Addr} {xs : List V} (e : H a = some (.lst xs)) : TyOf K H (.ref a) (.type "list")
 | frz {a : Addr} {o : Obj} {xs : List V} (e : H a = some (.frz o (.lst xs))) : TyOf K H (.ref a) (.type "list")
 | tup {a : Addr} {xs : List V} (e : H a = some (.tup xs)) : TyOf K H (.ref a) (.type "tuple")
 | dK {a : Addr} {kvs : List (Key × V)} (e : H a = some (.dK kvs)) : TyOf K H (.ref a) (.type "dict")
 | dT {a : Addr} {kvs : List (List Key × V)} (e : H a = some (.dT kvs)) : TyOf K H (.ref a) (.type "dict")
 | ins {a C dx : Addr} {fs : List (Str × V)} (e : H a = some (.ins C dx fs)) (cl : Cls K C) (ha : PySem.W.findIn K (.ref C) "__class__" = some (some (.builtin "object.__class__")))
   (hn : PySem.W.specialIn K (.builtin "object.__class__") "__get__" = some (some (.builtin "getset_descriptor.__get__"))) (htk : PySem.W.takesIn K (.builtin "object.__class__") = some true)
   (hm : PySem.W.mroIn K C (.type "object") = some true) : TyOf K H (.ref a) (.ref C)
theorem isinst_ok {x:V} {u t:Value} (I:Inv X pins σ H s) (rx:RelV x u) (ty:TyOf X.K H x t) (e:PySem.W.kitOne X.K t c=some b) (h:∀ tk,Q (.bool b) { s with toks:=tk }) :
  wpAny (model X.prog X.w) A (call (.builtin "isinstance") [u, c]) Q E s := by
 cases ty with
 | non=>cases (show u=Value.none from rx); exact PySem.W.kia_one PySem.W.kitx_none I.kIn True.intro e (fun z=>nomatch z) h
 | bl y=>cases (show u=Value.bool y from rx); exact PySem.W.kia_one PySem.W.kitx_bool I.kIn True.intro e (fun z=>nomatch z) h
 | int i=>obtain ⟨t,q⟩:=(show ∃ t,u=Value.int i t from rx); subst q; exact PySem.W.kia_one PySem.W.kitx_int I.kIn True.intro e (fun z=>nomatch z) h
 | str y=>obtain ⟨t,q⟩:=(show ∃ t,u=Value.str y t from rx); subst q; exact PySem.W.kia_one PySem.W.kitx_str I.kIn True.intro e (fun z=>nomatch z) h
 | flt y=>obtain ⟨t,q⟩:=(show ∃ t,u=Value.float y t from rx); subst q; exact PySem.W.kia_one PySem.W.kitx_float I.kIn True.intro e (fun z=>nomatch z) h
 | @lst a xs ea =>
  cases (show u=Value.ref a from rx)
  obtain ⟨_,_,n,_,h1⟩:=(show ce X.prog X.w H s.heap a (.lst xs) from I.hok a _ ea)
  exact PySem.W.kia_one PySem.W.kitx_list I.kIn ⟨_,h1,rfl⟩ e (fun z=>nomatch z) h
 | @frz a ob xs ea =>
  cases (show u=Value.ref a from rx)
  obtain ⟨_,_,_,n,_,h1⟩:=(show ce X.prog X.w H s.heap a (.frz ob (.lst xs)) from I.hok a _ ea)
  exact PySem.W.kia_one PySem.W.kitx_list I.kIn ⟨_,h1,rfl⟩ e (fun z=>nomatch z) h
 | @tup a xs ea =>
  cases (show u=Value.ref a from rx)
  obtain ⟨_,_,_,p⟩:=(show ce X.prog X.w H s.heap a (.tup xs) from I.hok a _ ea)
  obtain ⟨o,h1,h2,_⟩:=p
  exact PySem.W.kia_one PySem.W.kitx_tuple I.kIn ⟨o,h1,h2⟩ e (fun z=>nomatch z) h
 | @dK a kvs ea =>
  cases (show u=Value.ref a from rx)
  obtain ⟨_,_,vs,_,p⟩:=(show ce X.prog X.w H s.heap a (.dK kvs) from I.hok a _ ea)
  obtain ⟨o,es,ep,h1,h2,_⟩:=p
  exact PySem.W.kia_one PySem.W.kitx_dict I.kIn ⟨o,h1,h2.1⟩ e (fun z=>nomatch z) h
 | @dT a kvs ea =>
  cases (show u=Value.ref a from rx)
  obtain ⟨_,_,xs,_,o,es,ep,h1,h2,_⟩:=(show ce X.prog X.w H s.heap a (.dT kvs) from I.hok a _ ea)
  exact PySem.W.kia_one PySem.W.kitx_dict I.kIn ⟨o,h1,h2.1⟩ e (fun z=>nomatch z) h
 | @ins a C dx fs ea cl ha hn htk hm =>
  cases (show u=Value.ref a from rx)
  obtain ⟨mA,O,_⟩:=j0 I.hok ea
  obtain ⟨od,J,_⟩:=O.look
  exact PySem.W.kia_one (PySem.W.kitx_own (cl.get _) cl.hd ha hn htk hm) I.kIn J e (fun z=>nomatch z) h
end
end L2
namespace L2
open PySem PySem.Spec PyProof.Rows
structure Room (k:Nat) (A:Around):Prop where
 hd:A.handled=none
 dp:A.depth+3 * k+5 < recursionLimit
 un:A.units+16 * k+200 < cLine
theorem Room.mono {j k:Nat} {A:Around} (r:Room k A) (h:j≤k):Room j A:=⟨r.hd,by have:=r.dp; omega,by have:=r.un; omega⟩
theorem Room.deeper {k:Nat} {A:Around} (r:Room (k+1) A) (env:Env):Room k (A.deeper env) :=
 ⟨r.hd,by have:=r.dp; show A.depth+1+3 * k+5 < _; omega,by have:=r.un; show A.units+3+16 * k+200 < _; omega⟩
theorem make_depth {A : Around} {C : Addr} {us : List Value} {kw : List (Str × Value)} : (A.under (.builtin "type.__call__" ⟨.ref C :: us, kw⟩)).depth = A.depth + 1 := by
 first | rfl | simp [Around.under,Code.weight,Code.isCreation,Code.isGuard,Code.isCaller,Code.frames,Code.isFrame,guardIds]
theorem make_units {A : Around} {C : Addr} {us : List Value} {kw : List (Str × Value)} : (A.under (.builtin "type.__call__" ⟨.ref C :: us, kw⟩)).units = A.units + 1 := by
 first | rfl | simp [Around.under,Code.cUnits,Code.frames,Code.isFrame]
theorem Room.make {k : Nat} {A : Around} (r : Room (k + 1) A) (C : Addr) (us : List Value) (kw : List (Str × Value)) : Room k (A.under (.builtin "type.__call__" ⟨.ref C :: us, kw⟩)) :=
 ⟨r.hd,by have:=r.dp; rw [make_depth]; omega,by have:=r.un; rw [make_units]; omega⟩
theorem Room.depth {k:Nat} {A:Around} (r:Room k A):A.depth < recursionLimit:=by have:=r.dp; omega
theorem Room.units {k:Nat} {A:Around} (r:Room k A):A.units+64 < cLine:=by have:=r.un; omega
noncomputable def tNil:TA:=fun _ H Q=>Q [] H
noncomputable def jC (ta:TE) (tr:TA):TA:=fun σ H Q=>ta σ H fun x H1=>tr σ H1 fun xs H2=>Q (x::xs) H2
section
variable {X:Cx} {e:Expr} {es:List Expr} {te:TE} {t:TA} {pos:Pos}
theorem de:PA X [] tNil:=fun _ _ _ _ H Q I h=>Calls.spliced_nil ⟨[],H,I,.nil,h⟩
theorem bI (ha:PE X e te) (hr:PA X es t) (hs:starEach (e::es) X.env=(false,eval e X.env)::starEach es X.env:=by rfl):PA X (e::es) (jC te t):=by
 intro pos pins s σ H Q I h
 rw [hs]
 show wpAny _ _ (spliced ((false,eval e X.env)::backTo pos (starEach es X.env))) _ _ s
 refine Calls.spliced_cons (thn (ha pins s σ H _ I h) fun u s1 hh_=>?_)
 obtain ⟨x,H1,I1,r1,q1⟩:=hh_
 exact thn (hr pos pins s1 σ H1 _ I1 q1) fun us s2 ⟨xs,H2,I2,r2,q2⟩=>⟨x::xs,H2,I2,.cons r1 r2,q2⟩
noncomputable def tTup (t:TA):TE:=fun σ H Q=>t σ H fun xs H1=>xs.length≤sizeLine∧∀ p,H1 p=none→Q (.ref p) (upd H1 p (.tup xs))
noncomputable def tLst (t:TA):TE:=fun σ H Q=>t σ H fun xs H1=>xs.length≤sizeLine∧∀ p,H1 p=none→Q (.ref p) (upd H1 p (.lst xs))
theorem pe_tup {x1} (h:PA X es t):PE X (.Tuple es x1 pos) (tTup t):=by
 intro pins s σ H Q I hq
 refine wpAny_Tuple_spliced (thn (h pos pins s σ H _ I hq) fun us s1 ⟨xs,H1,I1,r,z,q⟩=>⟨by rw [← r.length]; exact z, ?_⟩)
 have hf:H1 s1.heap.objs.size=none:=I1.hok.fresh (Nat.le_refl _)
 refine ⟨.ref s1.heap.objs.size,upd H1 s1.heap.objs.size (.tup xs),I1.laid (t':=s1.toks) (fun b u e=>Heap.get?_push_of_some _ e) (Nat.le_refl _) ?_,rfl,q _ hf⟩
 exact ⟨z,us,r,⟨_,Heap.get?_push_size _ rfl,rfl,_,rfl⟩⟩
theorem pe_lst (h:PA X es t):PE X (.List es pos) (tLst t):=by
 intro pins s σ H Q I hq
 refine wpAny_List_spliced (thn (h pos pins s σ H _ I hq) fun us s1 ⟨xs,H1,I1,r,z,q⟩=>⟨by rw [← r.length]; exact z, ?_⟩)
 have hf:H1 s1.heap.objs.size=none:=I1.hok.fresh (Nat.le_refl _)
 refine ⟨.ref s1.heap.objs.size,upd H1 s1.heap.objs.size (.lst xs),I1.laid (t':=s1.toks) (fun b u e=>Heap.get?_push_of_some _ e) (Nat.le_refl _) ?_,rfl,q _ hf⟩
 exact ⟨z,us,0,r,Heap.get?_push_size _ rfl⟩
end
noncomputable abbrev Sp:=List V→Hp→VK→XK→Prop
noncomputable abbrev CXT:=List Env→Hp→Shared→XK→Value→Shared→Prop
structure Env0 (P:Program) (w:World) (K:PySem.W.Frag) (mg:Str→Option Value) (base:Heap) (A:Around) (outer:List Env) (s:Shared) (H:Hp):Prop where
 frames:A.frames=some outer
 mod:Mod K mg base
 bs:∀ b o,base.get? b=some o→s.heap.get? b=some o∧H b=none
 bsz:base.objs.size≤s.heap.objs.size
 funs:s.heap.FunFrames base outer
 frf:∀ b∈frs outer,H b=none
 hok:HOk P w H s.heap
 bare:AllBare s.gens
noncomputable def CE (outer:List Env) (P:Program) (w:World) (H:Hp) (s:Shared) (Q:VK) (u:Value) (s':Shared):Prop :=
 ∃ v H',s'.os=s.os∧AllBare s'.gens∧Un (frs outer) [] H H' s.heap s'.heap∧HOk P w H' s'.heap∧RelV v u∧Q v H'
noncomputable def CR (CX:CXT) (outer:List Env) (P:Program) (w:World) (H:Hp) (s:Shared) (Q:VK) (E:XK) (r:Result) (s':Shared):Prop :=
 match r with
 | .ok (.ret u)=>CE outer P w H s Q u s'
 | .ok _=>False
 | .error e=>CX outer H s E e s'
structure FnOk (P:Program) (w:World) (K:PySem.W.Frag) (mg:Str→Option Value) (base:Heap) (CX:CXT) (k:Nat) (f:Addr) (fd:FuncData) (ps:List Str) (sp:Sp):Prop where
 len:∀ vs H Q E,sp vs H Q E→vs.length=ps.length
 run:∀ (A:Around) (outer:List Env) (s:Shared) (H:Hp) (args:Args) (us:List Value) (vs:List V) (Q:VK) (E:XK),Room k A→Env0 P w K mg base A outer s H→BindsTo s fd args (ps.zip us)→Vals vs us→sp vs H Q E →
  codeAny (model P w) A (.call (.ref f) args) (CR CX outer P w H s Q E) s
theorem FnOk.imp {P:Program} {w:World} {K:PySem.W.Frag} {mg:Str→Option Value} {base:Heap} {CX:CXT} {k:Nat} {f:Addr} {fd:FuncData} {ps:List Str} {sp sp':Sp} (F:FnOk P w K mg base CX k f fd ps sp)
  (h:∀ vs H Q E,sp' vs H Q E→sp vs H Q E):FnOk P w K mg base CX k f fd ps sp' :=
 ⟨fun vs H Q E q=>F.len vs H Q E (h _ _ _ _ q),fun A outer s H args us vs Q E hr he hb hv hs=>F.run A outer s H args us vs Q E hr he hb hv (h _ _ _ _ hs)⟩
theorem Env0.make {P:Program} {w:World} {K:PySem.W.Frag} {mg:Str→Option Value} {base:Heap} {A:Around} {outer:List Env} {s:Shared} {H:Hp} (e:Env0 P w K mg base A outer s H) (C:Addr) (us:List Value) (kw:List (Str × Value)) :
  Env0 P w K mg base (A.under (.builtin "type.__call__" ⟨.ref C :: us, kw⟩)) outer s H := ⟨by first | exact e.frames | (simpa [Around.under, Code.envs, Code.isFrame, pushEnvs] using e.frames), e.mod, e.bs, e.bsz, e.funs, e.frf, e.hok, e.bare⟩
section
variable {X:Cx} {pins:List (Addr × Obj)} {σ:St} {H:Hp} {s s':Shared}
theorem Inv.env0 (I:Inv X pins σ H s):Env0 X.prog X.w X.K X.mg X.base X.A X.stack s H :=
 ⟨I.ok.frames,I.ok.mod,I.bs,Nat.le_trans I.ok.bsz I.sz,I.stack,I.stkFree,I.hok,I.bare⟩
theorem Inv.after {Q:VK} {u:Value} (I:Inv X pins σ H s) (h:CE X.stack X.prog X.w H s Q u s'):EP X pins σ Q u s':=by
 obtain ⟨v,H',os,bare,un,hok,r,q⟩:=h
 obtain ⟨hh,g,d,t,os'⟩:=s'
 obtain rfl:os'=s.os:=os
 exact ⟨v,H',I.call (h':=hh) (g':=g) (d':=d) (t':=t) (ch:=[]) un hok bare (fun b z=>absurd z (by simp)),r,q⟩
end
noncomputable def tCall (sp:Sp) (dvs:List V) (E:XK) (t:TA):TE:=fun σ H Q=>t σ H fun vs H1=>sp (vs++dvs) H1 Q E
noncomputable def tMeth (C:Addr) (m:Str) (sp:Sp) (dvs:List V) (E:XK) (ta:TE) (t:TA):TE:=fun σ H Q=>ta σ H fun x H1=>∃ a dx fs,x=.ref a∧H1 a=some (.ins C dx fs)∧fs.lookup m=none ∧
 t σ H1 fun vs H2=>sp (x::(vs++dvs)) H2 Q E
noncomputable def tMake (C:Addr) (sp:Sp) (dvs:List V) (E:XK) (t:TA):TE:=fun σ H Q=>t σ H fun vs H1=>∀ x dx,H1 x=none→H1 dx=none→dx≠x →
 sp (.ref x::(vs++dvs)) (upd (upd H1 dx (.own x)) x (.ins C dx [])) (fun v H2=>v=.non∧Q (.ref x) H2) E
noncomputable def eN (K:PySem.W.Frag) (fd:FuncData) (ps:List Str) (ds:List Value):Prop :=
 ∀ (s:Shared) (us:List Value),K.In s.heap→(us++ds).length=ps.length→BindsTo s fd ⟨us,[]⟩ (ps.zip (us++ds))
theorem eN.all {K:PySem.W.Frag} {fd:FuncData} {ps:List Str} (h:∀ us:List Value,us.length=ps.length→bindArgs fd ⟨us,[]⟩=pure (ps.zip us)):eN K fd ps []:=fun s us _ hl=>by
 rw [List.append_nil] at hl ⊢
 exact .of_eq (h us hl)
noncomputable def iP (CX:CXT) (X:Cx) (E:XK):Prop:=∀ (pins:List (Addr × Obj)) (σ:St) (H:Hp) (s:Shared) (e:Value) (s':Shared),Inv X pins σ H s→CX X.stack H s E e s'→X.xe e s'
section
variable {X:Cx} {CX:CXT} {k:Nat} {f C:Addr} {fd:FuncData} {ps:List Str} {sp:Sp} {dvs:List V} {ds:List Value} {E:XK} {x m:Str} {p pos apos:Pos} {e o:Expr} {es:List Expr} {ta:TE} {t:TA}
theorem run_fn {pins:List (Addr × Obj)} {σ:St} {H:Hp} {s:Shared} {Q:VK} {us:List Value} {vs:List V} (F:FnOk X.prog X.w X.K X.mg X.base CX k f fd ps sp) (hr:Room k X.A) (hb:eN X.K fd ps ds) (hd:Vals dvs ds) (hx:iP CX X E)
  (I:Inv X pins σ H s) (r:Vals vs us) (h:sp (vs++dvs) H Q E):wpAny (model X.prog X.w) X.A (call (.ref f) us) (EP X pins σ Q) X.xe s:=by
 have r2:Vals (vs++dvs) (us++ds):=r.append hd
 have hl:(us++ds).length=ps.length:=by rw [← r2.length]; exact F.len _ _ _ _ h
 refine wpAny_call (codeAny_mono (F.run X.A X.stack s H ⟨us,[]⟩ (us++ds) (vs++dvs) Q E hr I.env0 (hb s us I.kIn hl) r2 h) fun r s' hq=>?_)
 cases r with
 | error e=>exact hx pins σ H s e s' I hq
 | ok fl =>
  cases fl with
  | ret u=>exact I.after hq
  | next=>exact False.elim hq
  | brk=>exact False.elim hq
  | cont=>exact False.elim hq
theorem pe_call (F:FnOk X.prog X.w X.K X.mg X.base CX k f fd ps sp) (hr:Room k X.A) (hg:Gl X x) (hm:X.mg x=some (.ref f)) (hk:PySem.W.keepIn X.K (.ref f)=true) (hb:eN X.K fd ps ds) (hd:Vals dvs ds) (hx:iP CX X E)
  (ha : PA X (e :: es) t) (hdb : (x == ("__debug__" : Str)) = false := by decide) (he : starEach (e :: es) X.env = (false, eval e X.env) :: starEach es X.env := by rfl) (hpl : (backTo pos (starEach es X.env)).any (·.1) = false := by rfl) :
  PE X (.Call (.Name x p) (e::es) [] pos) (tCall sp dvs E t):=by
 intro pins s σ H Q I h
 refine wpAny_Call_Name_kw (ld_glob I hg hm ?_ hdb)
 refine PySem.W.callWith_K (h₀:=X.base) I.ok.mod.kin hk (thn (ha pos pins s σ H _ I h) fun us s1 ⟨vs,H1,I1,r,q⟩=>⟨I1.kIn, ?_⟩) he hpl
 exact run_fn F hr hb hd hx I1 r q
theorem pe_meth {pl:Sem Bool} (he:PE X o ta) (c:Cls X.K C) (hm:Meth X.K C m f) (F:FnOk X.prog X.w X.K X.mg X.base CX k f fd ps sp) (hr:Room k X.A) (hb:eN X.K fd ps ds) (hd:Vals dvs ds) (hx:iP CX X E) (ha:PA X (e::es) t)
  (hst:starEach (e::es) X.env=(false,eval e X.env)::starEach es X.env:=by rfl) (hpl:(backTo pos (starEach es X.env)).any (·.1)=false:=by rfl)
  (ht:eval (.Call (.Attribute o m apos) (e::es) [] pos) X.env=(do
   let ov ← eval o X.env
   standAt apos.atName
   let (f,first) ← holding [ov] (getMethod ov m pl)
   callWith pos f first (backTo pos (starEach (e::es) X.env)) (backToKw pos (keywordEach [] X.env))):=by rfl) :
  PE X (.Call (.Attribute o m apos) (e::es) [] pos) (tMeth C m sp dvs E ta t):=by
 intro pins s σ H Q I h
 refine PySem.W.methodCall_KW (pl:=pl) (thn (he pins s σ H _ I h) fun u s1 hh_=>?_) ht
 refine zz fun P_ k_=>?_
 obtain ⟨x,H1,I1,rx,a,dx,fs,ex,ea,l,q⟩:=hh_
 refine k_ ?_
 subst ex
 obtain rfl:u=Value.ref a:=rx
 refine jl I1 ea c hm l ?_
 refine PySem.W.callWith_K (first:=[.ref a]) (h₀:=X.base) I.ok.mod.kin hm.kp (thn (ha pos pins s1 σ H1 _ I1 q) fun us s2 ⟨vs,H2,I2,r,q2⟩=>⟨I2.kIn, ?_⟩) hst hpl
 exact run_fn (us:=.ref a::us) (vs:=.ref a::vs) F hr hb hd hx I2 (.cons rfl r) q2
theorem pe_meth0 {pl:Sem Bool} (he:PE X o ta) (c:Cls X.K C) (hm:Meth X.K C m f) (F:FnOk X.prog X.w X.K X.mg X.base CX k f fd ps sp) (hr:Room k X.A) (hb:eN X.K fd ps ds) (hd:Vals dvs ds) (hx:iP CX X E)
  (ht:eval (.Call (.Attribute o m apos) [] [] pos) X.env=(do
   let ov ← eval o X.env
   standAt apos.atName
   let (f,first) ← holding [ov] (getMethod ov m pl)
   callWith pos f first (backTo pos (starEach [] X.env)) (backToKw pos (keywordEach [] X.env))):=by rfl) :
  PE X (.Call (.Attribute o m apos) [] [] pos) (tMeth C m sp dvs E ta tNil):=by
 intro pins s σ H Q I h
 refine PySem.W.methodCall_KW (pl:=pl) (thn (he pins s σ H _ I h) fun u s1 hh_=>?_) ht
 refine zz fun P_ k_=>?_
 obtain ⟨x,H1,I1,rx,a,dx,fs,ex,ea,l,q⟩:=hh_
 refine k_ ?_
 subst ex
 obtain rfl:u=Value.ref a:=rx
 refine jl I1 ea c hm l ?_
 exact PySem.W.callWith_K0 (first:=[.ref a]) I1.kIn hm.kp (run_fn (us:=[.ref a]) (vs:=[.ref a]) F hr hb hd hx I1 (.cons rfl .nil) q)
structure Mk (K:PySem.W.Frag) (C f:Addr):Prop where
 makes:PySem.W.makesIn K C=true
 init : PySem.W.findIn K (.ref C) "__init__" = some (some (.ref f))
 fn:PySem.W.isFn K (.ref f)=true
 kp:PySem.W.keepIn K (.ref C)=true
theorem fK {pins:List (Addr × Obj)} {σ:St} {H:Hp} {s:Shared} {Q:VK} {us:List Value} {vs:List V} (M:Mk X.K C f) (F:FnOk X.prog X.w X.K X.mg X.base CX k f fd ps sp) (hr:Room (k+1) X.A) (hb:eN X.K fd ps ds) (hd:Vals dvs ds)
  (hx:iP CX X E) (I:Inv X pins σ H s) (r:Vals vs us)
  (h:∀ x dx,H x=none→H dx=none→dx≠x→sp (.ref x::(vs++dvs)) (upd (upd H dx (.own x)) x (.ins C dx [])) (fun v H2=>v=.non∧Q (.ref x) H2) E) :
  wpAny (model X.prog X.w) X.A (call (.ref C) us) (EP X pins σ Q) X.xe s:=by
 have hq:=h (s.heap.objs.size+1) s.heap.objs.size (I.hok.fresh (Nat.le_succ _)) (I.hok.fresh (Nat.le_refl _)) (Nat.ne_of_lt (Nat.lt_succ_self _))
 have I2:=Inv.made (C:=C) I
 have r2:Vals (V.ref (s.heap.objs.size+1)::(vs++dvs)) (Value.ref (s.heap.objs.size+1)::(us++ds)):=.cons rfl (r.append hd)
 have hl:(Value.ref (s.heap.objs.size+1)::us++ds).length=ps.length:=by
  have e:=r2.length
  rw [F.len _ _ _ _ hq] at e
  exact e.symm
 refine wpAny_call (make_map (f:=f) I.kIn M.makes M.init (beq_iff_eq.mp M.fn) (codeAny_mono (F.run _ X.stack _ _ ⟨Value.ref (s.heap.objs.size+1)::us,[]⟩ (Value.ref (s.heap.objs.size+1)::(us++ds)) _ _ E (hr.make C us [])
  (I2.env0.make C us []) (hb _ (Value.ref (s.heap.objs.size+1)::us) I2.kIn hl) r2 hq) fun r s' hq'=>?_))
 cases r with
 | error e=>exact hx pins σ _ _ e s' I2 hq'
 | ok fl =>
  cases fl with
  | ret u =>
   obtain ⟨v,H',I3,rv,ev,q3⟩:=I2.after hq'
   subst ev
   exact ⟨rv,⟨V.ref (s.heap.objs.size+1),H',I3,rfl,q3⟩⟩
  | next=>exact False.elim hq'
  | brk=>exact False.elim hq'
  | cont=>exact False.elim hq'
theorem pe_make (M:Mk X.K C f) (F:FnOk X.prog X.w X.K X.mg X.base CX k f fd ps sp) (hr:Room (k+1) X.A) (hg:Gl X x) (hm:X.mg x=some (.ref C)) (hb:eN X.K fd ps ds) (hd:Vals dvs ds) (hx:iP CX X E)
  (ha : PA X (e :: es) t) (hdb : (x == ("__debug__" : Str)) = false := by decide) (he : starEach (e :: es) X.env = (false, eval e X.env) :: starEach es X.env := by rfl) (hpl : (backTo pos (starEach es X.env)).any (·.1) = false := by rfl) :
  PE X (.Call (.Name x p) (e::es) [] pos) (tMake C sp dvs E t):=by
 intro pins s σ H Q I h
 refine wpAny_Call_Name_kw (ld_glob I hg hm ?_ hdb)
 refine PySem.W.callWith_K (h₀:=X.base) I.ok.mod.kin M.kp (thn (ha pos pins s σ H _ I h) fun us s1 ⟨vs,H1,I1,r,q⟩=>⟨I1.kIn, ?_⟩) he hpl
 exact fK M F hr hb hd hx I1 r q
end
section
variable {X:Cx} {CX:CXT} {k:Nat} {f C:Addr} {fd:FuncData} {ps ks:List Str} {sp:Sp} {E:XK} {x m:Str} {p pos apos kpos:Pos} {e o:Expr} {es:List Expr} {kws:List Keyword} {te ta:TE} {t tk:TA} {nm:Option Str}
variable {g:List Value→List Value→List Value} {gV:List V→List V→List V}
end
structure aJ (N P:List Str) (sc:Scope):Prop where
 kind:sc.kind=.function
 co:sc.isCoroutine=false
 gen:sc.isGenerator=false
 nd:N.Nodup
 pre:N.take P.length=P
 par:∀ x∈P,sc.names.lookup x=some .local∨sc.names.lookup x=some .cell
 nofree:∀ y∈sc.names,y.2 ≠ .free
theorem bindL_out {kindOf:Str→Option NameKind} {x:Str}:∀ {binds:List (Str × Value)} {m:Str→Option Value},(∀ v,(x,v)∉binds)→bindL kindOf binds m x=m x:=by
 intro x_0
 induction x_0 with
 | nil =>
  intro _ _
  exact rfl
 | cons p_0 r ih_ =>
  obtain ⟨n,v⟩:=p_0
  intro m h
  unfold bindL
  rw [ih_ fun w hw=>h w (List.mem_cons_of_mem _ hw)]
  split
  ·have:x≠n:=by rintro rfl; exact h v List.mem_cons_self
   simp [this]
  ·rfl
theorem bindC_out {kindOf:Str→Option NameKind} {x:Str}:∀ {binds:List (Str × Value)} {m:Str→Option Value},(∀ v,(x,v)∉binds)→bindC kindOf binds m x=m x:=by
 intro x_0
 induction x_0 with
 | nil =>
  intro _ _
  exact rfl
 | cons p_0 r ih_ =>
  obtain ⟨n,v⟩:=p_0
  intro m h
  unfold bindC
  rw [ih_ fun w hw=>h w (List.mem_cons_of_mem _ hw)]
  split
  ·rfl
  ·have:x≠n:=by rintro rfl; exact h v List.mem_cons_self
   simp [this]
theorem bindL_get {kindOf:Str→Option NameKind} {x:Str} {v:Value}:∀ {P:List Str} {vs:List Value} {i:Nat} {m:Str→Option Value},P.Nodup→P[i]?=some x→vs[i]?=some v→kindOf x=some .local →
  bindL kindOf (P.zip vs) m x=some v:=by
 intro x_0
 induction x_0 with
 | nil =>
  intro _ _ _ _ h _ _
  simp at h
 | cons p P ih_ =>
  intro x_1
  cases x_1 with
  | nil =>
   intro _ _ _ _ h _
   simp at h
  | cons w vs =>
   intro x_2
   cases x_2 with
   | zero =>
    intro m nd h1 h2 hk
    simp at h1 h2; subst h1; subst h2
    show bindL kindOf ((p,w)::P.zip vs) m p=_
    unfold bindL
    rw [bindL_out fun v hv=>(List.nodup_cons.mp nd).1 (List.of_mem_zip hv).1,if_pos hk]
    simp
   | succ i =>
    intro m nd h1 h2 hk
    show bindL kindOf ((p,w)::P.zip vs) m x=_
    unfold bindL
    exact ih_ (List.nodup_cons.mp nd).2 (by simpa using h1) (by simpa using h2) hk
theorem bindC_get {kindOf:Str→Option NameKind} {x:Str} {v:Value}:∀ {P:List Str} {vs:List Value} {i:Nat} {m:Str→Option Value},P.Nodup→P[i]?=some x→vs[i]?=some v→kindOf x≠some .local →
  bindC kindOf (P.zip vs) m x=some v:=by
 intro x_0
 induction x_0 with
 | nil =>
  intro _ _ _ _ h _ _
  simp at h
 | cons p P ih_ =>
  intro x_1
  cases x_1 with
  | nil =>
   intro _ _ _ _ h _
   simp at h
  | cons w vs =>
   intro x_2
   cases x_2 with
   | zero =>
    intro m nd h1 h2 hk
    simp at h1 h2; subst h1; subst h2
    show bindC kindOf ((p,w)::P.zip vs) m p=_
    unfold bindC
    rw [bindC_out fun v hv=>(List.nodup_cons.mp nd).1 (List.of_mem_zip hv).1,if_neg hk]
    simp
   | succ i =>
    intro m nd h1 h2 hk
    show bindC kindOf ((p,w)::P.zip vs) m x=_
    unfold bindC
    exact ih_ (List.nodup_cons.mp nd).2 (by simpa using h1) (by simpa using h2) hk
noncomputable def dJ (N:List Str) (vs:List V):St:=vs.map some++List.replicate (N.length - vs.length) none
noncomputable def cxOf (CX:CXT) (P:Program) (w:World) (K:PySem.W.Frag) (mg:Str→Option Value) (base:Heap) (N:List Str) (qual:Str) (scope:Scope) (f:Addr) (cd:Value) (A:Around) (outer:List Env) (s:Shared) (H:Hp) (E:XK):Cx where
 prog:=P
 w:=w
 K:=K
 mg:=mg
 base:=base
 A:=A.deeper (envOfC qual scope s.heap.objs.size f cd)
 N:=N
 s₀:=s
 H₀:=H
 env:=envOfC qual scope s.heap.objs.size f cd
 outer:=outer
 stack:=envOfC qual scope s.heap.objs.size f cd::outer
 ex:=[]
 calm:=true
 fn:=fun _=>true
 pn:=[]
 xe:=fun e s'=>wpAny (model P w) (A.deeper (envOfC qual scope s.heap.objs.size f cd)) (leaving (envOfC qual scope s.heap.objs.size f cd) e) (fun _ s''=>CX outer H s E e s'') (fun e' s''=>CX outer H s E e' s'') s'
theorem cell_has {sc:Scope} {n:Nat} {x:Str} (h:sc.names.lookup x=some .cell):∃ c,(cellsFrom n sc.names []).lookup x=some c:=by
 have q:=PySem.W.cellsFrom_some sc.names n [] (.inl h)
 exact Option.isSome_iff_exists.mp q
theorem inv_start {CX:CXT} {P:Program} {w:World} {K:PySem.W.Frag} {mg:Str→Option Value} {base:Heap} {N ps:List Str} {qual:Str} {scope:Scope} {f:Addr} {cd:Value} {A:Around} {outer:List Env} {s s1:Shared} {H:Hp} {E:XK} {us:List Value} {vs:List V}
  (S:aJ N ps scope) (hd:A.handled=none) (e0:Env0 P w K mg base A outer s H) (hl:vs.length=ps.length) (r:Vals vs us)
  (x:InCallC s s.heap.objs.size (bindL (envOfC qual scope s.heap.objs.size f cd).kindOf (ps.zip us) fun _=>none) (cellsFrom (s.heap.objs.size+1) scope.names []) (bindC (envOfC qual scope s.heap.objs.size f cd).kindOf (ps.zip us) fun _=>none) s1) :
  Inv (cxOf CX P w K mg base N qual scope f cd A outer s H E) [] (dJ N vs) H s1:=by
 have hpl:ps.length≤N.length:=by have:=congrArg List.length S.pre; rw [List.length_take] at this; omega
 obtain ⟨h1,tk,rfl,hk⟩:=x.done
 have noA:∀ b:Addr,b∉(cxOf CX P w K mg base N qual scope f cd A outer s H E).ex:=fun b z=>absurd (show b∈([]:List Addr) from z) (by simp)
 refine ⟨⟨e0.mod,S.kind,rfl,rfl,Nat.le_refl _,fun y z c h1 h2=>?_,fun y hy=>?_,fun y c _ h=>?_,fun _=>hd,Around.frames_deeper e0.frames,.inr ⟨rfl,rfl⟩,fun b z=>absurd z (noA b),e0.bs,e0.bsz,fun b _ _=>noA b,fun b z=>absurd z (noA b),e0.funs,e0.frf⟩,
  rfl,e0.bare,Un.kept hk,⟨_,x.toInCall.ns,fun i y v h1 h2 h3=>?_⟩,fun y c h=>⟨_,x.cell y c h⟩,e0.hok.fresh (Nat.le_refl _),fun y c h=>?_,fun p hp=>absurd (show p∈([]:List (Addr × Obj)) from hp) (by simp),e0.hok.kept hk, ?_⟩
 ·exact name_of_addr x.apart (PySem.mem_of_lookup h1) (PySem.mem_of_lookup h2)
 ·have hy:scope.names.lookup y=some .cell∨scope.names.lookup y=some .free:=hy
  rcases hy with hy | hy
  ·exact cell_has hy
  ·exact absurd rfl (S.nofree _ (PySem.mem_of_lookup hy))
 ·exact Nat.le_of_lt (x.above y c (PySem.mem_of_lookup h))
 ·have hi:i < vs.length:=by
   unfold dJ at h2
   by_cases hi:i < vs.length
   ·exact hi
   ·rw [List.getElem?_append_right (by simpa using hi)] at h2
    rw [List.getElem?_replicate] at h2
    split at h2 <;> (first | injection h2; done | injection h2 with h2; injection h2; done)
  have ha:vs[i]?=some v:=by
   unfold dJ at h2
   rw [List.getElem?_append_left (by simpa using hi),List.getElem?_map] at h2
   cases e:vs[i]? with
   | none=>rw [e] at h2; injection h2
   | some a=>rw [e] at h2; cases h2; rfl
  obtain ⟨u,hu,rv⟩:=r.get ha
  have hp:ps[i]?=some y:=by
   rw [← S.pre,List.getElem?_take_of_lt (by omega)]; exact h1
  have ndP:ps.Nodup:=by rw [← S.pre]; exact S.nd.sublist (List.take_sublist _ _)
  refine ⟨u,rv, ?_⟩
  rcases S.par y (List.mem_of_getElem? hp) with k | k
  ·exact .inl ⟨k,bindL_get ndP hp hu k⟩
  ·obtain ⟨c,e⟩:=cell_has (n:=s.heap.objs.size+1) k
   refine .inr ⟨.inl k,c,e, ?_⟩
   have q:=x.cell y c e
   rw [bindC_get ndP hp hu (by show scope.names.lookup y≠_; rw [k]; decide)] at q
   exact q
 ·exact e0.hok.fresh (Nat.le_of_lt (x.above y c (PySem.mem_of_lookup h)))
 ·unfold dJ
  show _=N.length
  rw [List.length_append,List.length_map,List.length_replicate]
  omega
theorem fn_of {CX:CXT} {P:Program} {w:World} {K:PySem.W.Frag} {mg:Str→Option Value} {base:Heap} {k:Nat} {f:Addr} {name qual:Str} {params:Arguments} {body:List Stmt} {scope:Scope} {dV kV doc pm cdv ct oc:Value} {an od:Option Addr}
  {osl:Array (Option Value)} {N ps:List Str} {sp:Sp} (lk:K.lookup f=some ⟨oc,od,.func (PySem.W.fnOf name qual params body scope dV kV doc pm an cdv ct),osl⟩) (hcd:PySem.W.codeIn K cdv qual=true) (S:aJ N ps scope)
  (len:∀ vs H Q E,sp vs H Q E→vs.length=ps.length)
  (hbody:∀ (A:Around) (outer:List Env) (s:Shared) (H:Hp) (vs:List V) (Q:VK) (E:XK),Room k (A.deeper (envOfC qual scope s.heap.objs.size f cdv))→sp vs H Q E →
   ∃ t,PSs (cxOf CX P w K mg base N qual scope f cdv A outer s H E) body t∧t { nx:=fun _ H'=>Q .non H',rt:=Q } (dJ N vs) H) :
  FnOk P w K mg base CX (k+1) f (PySem.W.fnOf name qual params body scope dV kV doc pm an cdv ct) ps sp:=by
 refine ⟨len,fun A outer s H args us vs Q E hr e0 hb r hsp=>?_⟩
 have hl:=len _ _ _ _ hsp
 have KX:K.In s.heap:=e0.mod.kin.keeps fun b o e=>(e0.bs b o e).1
 have lim:s.heap.NoLimit:=e0.mod.nolimit.keeps fun b o e=>(e0.bs b o e).1
 have hkind:∀ y∈ps.zip us,scope.names.lookup y.1=some .local∨(scope.names.lookup y.1=some .cell∧((cellsFrom (s.heap.objs.size+1) scope.names []).lookup y.1).isSome=true):=fun ⟨n,v⟩ hy=>by
  rcases S.par n (List.of_mem_zip hy).1 with q | q
  ·exact .inl q
  ·exact .inr ⟨q,PySem.W.cellsFrom_some _ _ _ (.inl q)⟩
 refine codeAny_call_function hr.depth (KX _ _ lk) rfl S.co S.gen rfl (PySem.W.codeRec_of KX hcd) (hb _ _ _ _ ?_)
 refine wpAny_newFunctionEnv_cells S.kind hkind fun env he s1 x=>?_
 subst he
 refine ⟨lim.keeps x.toInCall.keep,codeAny_func ?_⟩
 obtain ⟨t,ht,hq⟩:=hbody A outer s H vs Q E (hr.deeper _) hsp
 have I:Inv (cxOf CX P w K mg base N qual scope f cdv A outer s H E) [] (dJ N vs) H s1:=inv_start S hr.hd e0 hl r x
 refine wpAny_mono (ht [] s1 (dJ N vs) H _ I hq) (fun fl s' hs=>?_) fun e s' hs=>hs
 have fin:∀ {σ':St} {H':Hp} {v:V} {u:Value},Inv (cxOf CX P w K mg base N qual scope f cdv A outer s H E) [] σ' H' s'→RelV v u→Q v H'→CE outer P w H s Q u s' :=
  fun {σ' H' v u} J rv q=>⟨v,H',J.os,J.bare,J.base,J.hok,rv,q⟩
 cases fl with
 | ret u =>
  obtain ⟨v,σ',H',J,rv,q⟩:=hs
  exact fin J rv q
 | next =>
  obtain ⟨σ',H',J,q⟩:=hs
  exact fin (v:=V.non) (u:=Value.none) J rfl q
 | brk =>
  obtain ⟨_,_,_,q⟩:=hs
  exact False.elim q
 | cont =>
  obtain ⟨_,_,_,q⟩:=hs
  exact False.elim q
end L2
namespace L2
open PySem PySem.Spec PyProof.Rows
section
variable {X:Cx} {x:Str} {p pos:Pos} {e:Expr} {es:List Expr} {t:TA} {id T:String} {r:List V→Hp→VK→Prop}
noncomputable def tCB (r:List V→Hp→VK→Prop) (t:TA):TE:=fun σ H Q=>t σ H fun vs H1=>r vs H1 Q
theorem jQ (hc : CallR X (.builtin id) r) (hg : Gl X x) (hm : X.mg x = none) (hv : bootBuiltins x = some (.builtin id)) (ha : PA X (e :: es) t) (hn : x ≠ "__name__" := by decide) (hdb : (x == ("__debug__" : Str)) = false := by decide)
  (he:starEach (e::es) X.env=(false,eval e X.env)::starEach es X.env:=by rfl) (hpl:(backTo pos (starEach es X.env)).any (·.1)=false:=by rfl):PE X (.Call (.Name x p) (e::es) [] pos) (tCB r t):=by
 intro pins s σ H Q I h
 refine wpAny_Call_Name_kw (ld_blt I hg hm hv ?_ hn hdb)
 exact PyProof.Rows.callWith_builtin1 (thn (ha pos pins s σ H _ I h) fun us s1 ⟨vs,H1,I1,r1,q1⟩=>hc pins s1 σ H1 vs us Q I1 r1 q1) he hpl
theorem pe_callTy (hc : CallR X (.type T) r) (hg : Gl X x) (hm : X.mg x = none) (hv : bootBuiltins x = some (.type T)) (ha : PA X (e :: es) t) (hn : x ≠ "__name__" := by decide) (hdb : (x == ("__debug__" : Str)) = false := by decide)
  (he:starEach (e::es) X.env=(false,eval e X.env)::starEach es X.env:=by rfl) (hpl:(backTo pos (starEach es X.env)).any (·.1)=false:=by rfl):PE X (.Call (.Name x p) (e::es) [] pos) (tCB r t):=by
 intro pins s σ H Q I h
 refine wpAny_Call_Name_kw (ld_blt I hg hm hv ?_ hn hdb)
 exact PyProof.Rows.callWith_type1 (thn (ha pos pins s σ H _ I h) fun us s1 ⟨vs,H1,I1,r1,q1⟩=>hc pins s1 σ H1 vs us Q I1 r1 q1) he hpl
end
end L2
namespace HT
open PySem PyProof.Rows
section
open PySem.SeqAt
open PySem.AutoSeq1 (wpAny_loadPart')
open PySem.MeetsSeq PySem.MeetsSeq2 PySem.MeetsSeq3
end
section
variable {prog:Program} {w:World} {A:Around} {E:Value→Shared→Prop} {s:Shared}
noncomputable def sIx (n d:Nat):Option Int→Nat
 | none=>d
 | some v=>if v < 0 then (v+(n:Int)).toNat else min v.toNat n
end
end HT
namespace L2
open PySem PySem.Spec PyProof.Rows
noncomputable abbrev TO:=St→Hp→(Option Int→Hp→Prop)→Prop
noncomputable def PO (X:Cx) (e:Option Expr) (t:TO):Prop :=
 ∀ (pins:List (Addr × Obj)) (s:Shared) (σ:St) (H:Hp) (Q:Option Int→Hp→Prop),Inv X pins σ H s→t σ H Q →
  wpAny (model X.prog X.w) X.A (evalPart e X.env) (fun u s'=>∃ o H',Inv X pins σ H' s'∧IsPart u o∧Q o H') X.xe s
noncomputable def tNoPart:TO:=fun _ H Q=>Q none H
noncomputable def tPart (t:TE):TO:=fun σ H Q=>t σ H fun x H1=>∃ i,x=.int i∧Q (some i) H1
theorem jh {ns:List Int}:∀ {us:List Value},Vals (ns.map V.int) us→IntsAre us ns:=by
 induction ns with
 | nil=>intro us r; rw [List.map_nil] at r; cases r; exact .nil
 | cons n ns ih =>
  intro us r
  rw [List.map_cons] at r
  cases r with
  | cons r1 r2 =>
   obtain ⟨t,e⟩:=r1
   subst e
   exact .cons n t (ih r2)
section
variable {X:Cx} {e:Expr} {te:TE} {lo hi:Option Expr} {tl th:TO} {pos p2:Pos}
theorem po_none:PO X none tNoPart:=by
 intro pins s σ H Q I h
 rw [evalPart_none]
 exact wpAny_pure ⟨none,H,I,.none,h⟩
theorem po_some (h:PE X e te):PO X (some e) (tPart te):=by
 intro pins s σ H Q I hw
 rw [evalPart_some]
 refine thn (h pins s σ H _ I hw) fun u s1 hh_=>?_
 obtain ⟨x,H1,I1,r1,q1⟩:=hh_
 obtain ⟨i,rfl,q⟩:=q1
 obtain ⟨t,rfl⟩:=r1
 exact ⟨some i,H1,I1,.int i t,q⟩
noncomputable def SlR (X:Cx) (r:V→Option Int→Option Int→Hp→VK→Prop):Prop :=
 ∀ (pins:List (Addr × Obj)) (s:Shared) (σ:St) (H:Hp) (x:V) (v vl vu:Value) (lo hi:Option Int) (sl:Addr) (Q:VK),Inv X pins σ H s→RelV x v→s.heap.IsSliceOf sl vl vu .none→IsPart vl lo→IsPart vu hi→r x lo hi H Q →
  ∃ T id, typeLookup (.type T) "__getitem__" = pure (some (.builtin id)) ∧ s.TypeIs v T ∧ wpAny (model X.prog X.w) X.A (getItem v (.ref sl)) (EP X pins σ Q) X.xe s
noncomputable def tSl (r:V→Option Int→Option Int→Hp→VK→Prop) (te:TE) (tl th:TO):TE:=fun σ H Q=>te σ H fun x H1=>tl σ H1 fun l H2=>th σ H2 fun u H3=>r x l u H3 Q
theorem pe_slice {r:V→Option Int→Option Int→Hp→VK→Prop} (hr:SlR X r) (he:PE X e te) (hl:PO X lo tl) (hu:PO X hi th):PE X (.Subscript e (.Slice lo hi none p2) pos) (tSl r te tl th):=by
 intro pins s σ H Q I h
 refine Subscript_ (thn (he pins s σ H _ I h) fun v s1 hh_=>?_)
 refine zz fun P_ k_=>?_
 obtain ⟨x,H1,I1,r1,q1⟩:=hh_
 refine k_ ?_
 refine wpAny_Slice (thn (hl pins s1 σ H1 _ I1 q1) fun vl s2 ⟨l,H2,I2,pl,q2⟩=>thn (hu pins s2 σ H2 _ I2 q2) fun vu s3 hh_=>?_)
 refine zz fun P_ k_=>?_
 obtain ⟨u,H3,I3,pu,q3⟩:=hh_
 refine k_ ?_
 rw [evalPart_none]
 refine wpAny_pure ?_
 have I4 : Inv X pins σ H3 { s3 with heap := s3.heap.push { cls := .type "slice", data := .fields #[vl, vu, .none] } } := I3.kept (t' := s3.toks) fun b ob q => Heap.get?_push_of_some _ q
 refine zz fun P_ k_=>?_
 obtain ⟨T, id, hT, ht, hg⟩ := hr pins { s3 with heap := s3.heap.push { cls := .type "slice", data := .fields #[vl, vu, .none] } } σ H3 x v vl vu l u s3.heap.objs.size Q I4 r1 (Heap.IsSliceOf.new ..) pl pu q3
 refine k_ ?_
 show wpAny (model X.prog X.w) X.A (subscriptTail e (.Slice lo hi none p2) v (.ref s3.heap.objs.size)) (EP X pins σ Q) X.xe { s3 with heap := s3.heap.push { cls := .type "slice", data := .fields #[vl, vu, .none] } }
 exact tail_any (ops:=[.ref s3.heap.objs.size,v]) ht hT hg (by with_unfolding_all rfl)
noncomputable def cutV (xs:List V) (lo hi:Option Int):List V:=(xs.drop (HT.sIx xs.length 0 lo)).take (HT.sIx xs.length xs.length hi - HT.sIx xs.length 0 lo)
theorem cutV_length (xs:List V) (lo hi:Option Int):(cutV xs lo hi).length≤xs.length:=by
 unfold cutV
 rw [List.length_take,List.length_drop]
 exact Nat.le_trans (Nat.min_le_right _ _) (Nat.sub_le _ _)
end
end L2
namespace L2
open PySem PySem.Spec PyProof.Rows
noncomputable def ixN (n:Nat) (i:Int):Option Nat:=if 0≤i then (if i < n then some i.toNat else none) else if -(n:Int)≤i then some (i+n).toNat else none
noncomputable def atI {α:Type} (xs:List α) (i:Int):Option α:=(ixN xs.length i).bind fun j=>xs[j]?
theorem ixN_seq {n:Nat} {i:Int} {j:Nat} (h:ixN n i=some j):seqIndex? i n=some j∧j < n∧-(n:Int)≤i∧i < n:=by
 unfold ixN at h
 by_cases h0:0≤i
 ·rw [if_pos h0] at h
  by_cases h1:i < n
  ·rw [if_pos h1] at h
   have e:i.toNat=j:=Option.some.inj h
   exact ⟨by rw [seqIndex_of h0 h1,e],by omega,by omega,h1⟩
  ·rw [if_neg h1] at h; injection h
 ·rw [if_neg h0] at h
  by_cases h1 : -(n:Int)≤i
  ·rw [if_pos h1] at h
   have e:(i+n).toNat=j:=Option.some.inj h
   exact ⟨by rw [seqIndex_neg (by exact Int.not_le.mp ‹_›) h1,e],by omega,h1,by omega⟩
  ·rw [if_neg h1] at h; injection h
theorem atI_get {α:Type} {xs:List α} {i:Int} {v:α} (h:atI xs i=some v):∃ j,seqIndex? i xs.length=some j∧xs[j]?=some v∧j < xs.length∧-(xs.length:Int)≤i∧i < xs.length:=by
 unfold atI at h
 cases e:ixN xs.length i with
 | none=>rw [e] at h; injection h
 | some j =>
  rw [e] at h
  obtain ⟨h1,h2,h3,h4⟩:=ixN_seq e
  exact ⟨j,h1,h,h2,h3,h4⟩
noncomputable def PlainIx (b:Expr):Prop:=∀ o i,subscripted b false o i=operate [o,i] (getItem o i)
noncomputable def IxR (X:Cx) (r:R2):Prop :=
 ∀ (value slice:Expr) (pins:List (Addr × Obj)) (s:Shared) (σ:St) (H:Hp) (x y:V) (v u:Value) (Q:VK),Inv X pins σ H s→RelV x v→RelV y u→r x y H Q →
  subscripted slice false v u=operate [v,u] (getItem v u)→wpAny (model X.prog X.w) X.A (subscriptTail value slice v u) (EP X pins σ Q) X.xe s
noncomputable def MtR (X:Cx) (id:String) (r:V→List V→Hp→VK→Prop):Prop :=
 ∀ (pins:List (Addr × Obj)) (s:Shared) (σ:St) (H:Hp) (x:V) (xs:List V) (v:Value) (us:List Value) (Q:VK),Inv X pins σ H s→RelV x v→Vals xs us→r x xs H Q →
  wpAny (model X.prog X.w) X.A (call (.builtin id) (v::us)) (EP X pins σ Q) X.xe s
section
variable {X:Cx} {a b:Expr} {ta tb:TE} {pos:Pos}
theorem pe_ix {r:R2} (hr:IxR X r) (ha:PE X a ta) (hb:PE X b tb) (hs:PlainIx b):PE X (.Subscript a b pos) (tOp r ta tb):=by
 intro pins s σ H Q I h
 exact Subscript_ (binT ha hb I h fun v u s2 x y H2 I2 rx ry q=>hr a b pins s2 σ H2 x y v u Q I2 rx ry q (hs _ _))
noncomputable def rIxL (K:PySem.W.Frag):R2:=fun x y H Q=>∃ p xs i v,x=.ref p∧y=.int i∧SqL K H p xs∧atI xs i=some v∧Q v H
noncomputable def rIxT (K:PySem.W.Frag):R2:=fun x y H Q=>∃ p xs i v,x=.ref p∧y=.int i∧SqT K H p xs∧atI xs i=some v∧Q v H
theorem ix_list:IxR X (rIxL X.K):=by
 intro value slice pins s σ H x y v u Q I rx ry h hs
 refine zz fun P_ k_=>?_
 obtain ⟨p,xs,i,z,rfl,rfl,hq,he,q⟩:=h
 refine k_ ?_
 subst rx
 refine zz fun P_ k_=>?_
 obtain ⟨t,rfl⟩:=ry
 obtain ⟨its,r,pl,hz⟩:=I.list hq
 obtain ⟨j,h1,h2,h3,h4,h5⟩:=atI_get he
 obtain ⟨w,ew,rw'⟩:=r.get h2
 refine k_ ?_
 have hl:=r.length
 have hn:=line63
 have fin:EP X pins σ Q w s:=⟨z,H,I,rw',q⟩
 by_cases h0:0≤i
 ·have hj:i.toNat=j:=by
   rw [seqIndex_of h0 h5] at h1
   exact Option.some.inj h1
  exact item_listR pl.isList h0 (by omega) (by rw [hj]; simpa using ew) fin hs
 ·have hj:(i+(its.toArray.size:Int)).toNat=j:=by
   rw [seqIndex_neg (by exact Int.not_le.mp ‹_›) h4] at h1
   rw [List.size_toArray,← hl]
   exact Option.some.inj h1
  exact subscriptTail_builtinR (x:=w) pl.isList.typeIs slot_list_getitem.lookup
   (wpAny_getItem_list_neg (Q:=fun r s'=>r=w∧EP X pins σ Q r s') pl.isList (by exact Int.not_le.mp ‹_›) (by rw [List.size_toArray] <;> omega) (by omega) (by rw [hj]; simpa using ew) ⟨rfl,fin⟩) hs
theorem ix_tup:IxR X (rIxT X.K):=by
 intro value slice pins s σ H x y v u Q I rx ry h hs
 obtain ⟨p,xs,i,z,rfl,rfl,hq,he,q⟩:=h
 subst rx
 obtain ⟨t,rfl⟩:=ry
 obtain ⟨its,r,pl,hz⟩:=I.tuple hq
 obtain ⟨j,h1,h2,h3,h4,h5⟩:=atI_get he
 obtain ⟨w,ew,rw'⟩:=r.get h2
 have hl:=r.length
 have hn:=line63
 have fin:EP X pins σ Q w s:=⟨z,H,I,rw',q⟩
 exact subscriptTail_builtinR (x:=w) pl.typeIs slot_tuple_getitem.lookup
  (getItem_tuple (j:=j) (Q:=fun r s'=>r=w∧EP X pins σ Q r s') pl (by omega) (by omega) (by rw [List.size_toArray,← hl]; exact h1) (by simpa using ew) ⟨rfl,fin⟩) hs
theorem clip_neg (n:Nat) {i:Int} (h:i < 0):max 0 (min (i+n) n)=(((i+n).toNat:Nat):Int):=by
 have e:=Int.add_le_add_right (Int.le_of_lt h) n
 rw [Int.zero_add] at e
 rw [Int.min_eq_left e,Int.ofNat_toNat,Int.max_comm]
theorem clip_pos (n:Nat) {i:Int} (h:¬ i < 0):max 0 (min i n)=((min i.toNat n:Nat):Int):=by
 obtain ⟨k,rfl⟩:=Int.eq_ofNat_of_zero_le (Int.not_lt.mp h)
 rw [Int.toNat_natCast]
 rcases Nat.le_total k n with e | e
 ·rw [Nat.min_eq_left e,Int.min_eq_left (Int.ofNat_le.mpr e)]; exact Int.max_eq_right (Int.natCast_nonneg _)
 ·rw [Nat.min_eq_right e,Int.min_eq_right (Int.ofNat_le.mpr e)]; exact Int.max_eq_right (Int.natCast_nonneg _)
theorem slice_bounds (lo hi:Option Int) (n:Nat):(sliceBounds lo hi none n).1=((HT.sIx n 0 lo:Nat):Int)∧(sliceBounds lo hi none n).2.1=((HT.sIx n n hi:Nat):Int)∧(sliceBounds lo hi none n).2.2=1:=by
 refine ⟨?_, ?_,rfl⟩
 ·cases lo with
  | none=>rfl
  | some i =>
   by_cases h:i < 0
   ·simp only [sliceBounds,HT.sIx,Option.getD_none,show (1:Int) > 0 by decide,if_true,h]
    exact clip_neg n h
   ·simp only [sliceBounds,HT.sIx,Option.getD_none,show (1:Int) > 0 by decide,if_true,h,if_false]
    exact clip_pos n h
 ·cases hi with
  | none=>rfl
  | some i =>
   by_cases h:i < 0
   ·simp only [sliceBounds,HT.sIx,Option.getD_none,show (1:Int) > 0 by decide,if_true,h]
    exact clip_neg n h
   ·simp only [sliceBounds,HT.sIx,Option.getD_none,show (1:Int) > 0 by decide,if_true,h,if_false]
    exact clip_pos n h
theorem jH (its:List Value) (lo hi:Option Int):slicePick its.toArray lo hi none=((its.drop (HT.sIx its.length 0 lo)).take (HT.sIx its.length its.length hi - HT.sIx its.length 0 lo)).toArray:=by
 obtain ⟨h1,h2,h3⟩:=slice_bounds lo hi its.toArray.size
 unfold slicePick
 rw [h1,h2,h3]
 simp only [sliceRange_one,pick_run,List.size_toArray] <;> rfl
noncomputable def rSlL (K:PySem.W.Frag):V→Option Int→Option Int→Hp→VK→Prop:=fun x lo hi H Q=>∃ a xs,x=.ref a∧SqL K H a xs∧∀ p,H p=none→Q (.ref p) (upd H p (.lst (cutV xs lo hi)))
theorem sl_list:SlR X (rSlL X.K):=by
 intro pins s σ H x v vl vu lo hi sl Q I rx hs pl pu h
 obtain ⟨a,xs,rfl,hx,q⟩:=h
 subst rx
 obtain ⟨its,r,ht,hz⟩:=I.list hx
 have hlen:=r.length
 refine ⟨"list", _, slot_list_getitem.lookup, ht.isList.typeIs, ?_⟩
 refine wpAny_getItem_list_slice ht.isList hs pl pu .none (by simp) ?_ (by rw [List.size_toArray] <;> omega)
 rw [jH,← hlen]
 refine ⟨.ref s.heap.objs.size,_,I.laid (t':=s.toks) (o:=.lst (cutV xs lo hi)) (fun b ob q=>Heap.get?_push_of_some _ q) (Nat.le_refl _) ?_,rfl,q _ (I.hok.fresh (Nat.le_refl _))⟩
 exact ⟨Nat.le_trans (cutV_length xs lo hi) hz,_,0,(r.drop (HT.sIx xs.length 0 lo)).take (HT.sIx xs.length xs.length hi - HT.sIx xs.length 0 lo),Heap.get?_push_size _ rfl⟩
noncomputable def fE:V→Bool
 | .non=>true
 | .bl _=>true
 | .int _=>true
 | .str _=>true
 | _=>false
noncomputable def eqV:V→V→Bool
 | .non,.non=>true
 | .bl a,.bl b=>a == b
 | .bl a,.int b=>(if a then 1 else 0) == b
 | .int a,.bl b=>a == (if b then 1 else 0)
 | .int a,.int b=>a == b
 | .str a,.str b=>a == b
 | _,_=>false
theorem eqAt_V {A:Around} {s:Shared} {y x:V} {u v:Value} (ry:RelV y u) (rx:RelV x v) (fy:fE y=true) (fx:fE x=true):SeqAt.EqAt A s u v (eqV y x):=by
 cases y with
 | non =>
  subst ry
  cases x with
  | non=>subst rx; exact SeqAt.EqAt.same _
  | bl b=>subst rx; exact SeqAt.EqAt.none_bool b
  | int b=>obtain ⟨t,rfl⟩:=rx; exact SeqAt.EqAt.none_int b t
  | str b=>obtain ⟨t,rfl⟩:=rx; exact SeqAt.EqAt.none_str b t
  | _=>exact absurd (show false=true from fx) Bool.false_ne_true
 | bl a =>
  subst ry
  cases x with
  | non=>subst rx; exact SeqAt.EqAt.bool_none a
  | bl b=>subst rx; exact SeqAt.EqAt.bool_bool a b
  | int b=>obtain ⟨t,rfl⟩:=rx; exact SeqAt.EqAt.bool_int a b t
  | str b=>obtain ⟨t,rfl⟩:=rx; exact SeqAt.EqAt.bool_str a b t
  | _=>exact absurd (show false=true from fx) Bool.false_ne_true
 | int a =>
  obtain ⟨t',rfl⟩:=ry
  cases x with
  | non=>subst rx; exact SeqAt.EqAt.int_none a t'
  | bl b=>subst rx; exact SeqAt.EqAt.int_bool a t' b
  | int b=>obtain ⟨t,rfl⟩:=rx; exact SeqAt.EqAt.int_int a t' b t
  | str b=>obtain ⟨t,rfl⟩:=rx; exact SeqAt.EqAt.int_str a t' b t
  | _=>exact absurd (show false=true from fx) Bool.false_ne_true
 | str a =>
  obtain ⟨t',rfl⟩:=ry
  cases x with
  | non=>subst rx; exact SeqAt.EqAt.str_none a t'
  | bl b=>subst rx; exact SeqAt.EqAt.str_bool a t' b
  | int b=>obtain ⟨t,rfl⟩:=rx; exact SeqAt.EqAt.str_int a t' b t
  | str b=>obtain ⟨t,rfl⟩:=rx; exact SeqAt.EqAt.str_str a t' b t
  | _=>exact absurd (show false=true from fx) Bool.false_ne_true
 | _=>exact absurd (show false=true from fy) Bool.false_ne_true
noncomputable def eqU (x:V) (u:Value):Bool:=match u with
 | .none=>eqV .non x
 | .bool b=>eqV (.bl b) x
 | .int i _=>eqV (.int i) x
 | .str z _=>eqV (.str z) x
 | _=>false
theorem eqU_of {x y:V} {u:Value} (r:RelV y u) (f:fE y=true):eqU x u=eqV y x:=by
 cases y with
 | non=>subst r; rfl
 | bl b=>subst r; rfl
 | int i=>obtain ⟨t,rfl⟩:=r; rfl
 | str z=>obtain ⟨t,rfl⟩:=r; rfl
 | _=>exact absurd (show false=true from f) Bool.false_ne_true
theorem kn {x:V}:∀ {xs:List V} {us:List Value},Vals xs us→xs.all fE=true→us.any (eqU x)=xs.any fun y=>eqV y x:=by
 intro xs us h
 induction h with
 | nil=>exact fun _=>rfl
 | cons r t ih =>
  intro f
  rw [List.all_cons,Bool.and_eq_true] at f
  rw [List.any_cons,List.any_cons,eqU_of r f.1,ih f.2]
theorem gK {A:Around} {s:Shared} {x:V} {v:Value} (rx:RelV x v) (fx:fE x=true):∀ {xs:List V} {us:List Value},Vals xs us→xs.all fE=true→∀ u∈us,SeqAt.EqAt A s u v (eqU x u):=by
 intro xs us h
 induction h with
 | nil=>exact fun _ u hu=>absurd hu List.not_mem_nil
 | cons r t ih =>
  intro f u' hu
  rw [List.all_cons,Bool.and_eq_true] at f
  rcases List.mem_cons.mp hu with rfl | hu
  ·rw [eqU_of r f.1]; exact eqAt_V r rx f.1 fx
  ·exact ih f.2 u' hu
noncomputable def inV (x:V) (xs:List V):Bool:=xs.any fun y=>eqV y x
noncomputable def rIn (K:PySem.W.Frag) (neg:Bool):R2:=fun x y H Q=>∃ p xs,y=.ref p∧(SqL K H p xs∨SqT K H p xs)∧fE x=true∧xs.all fE=true∧Q (.bl (if neg then !inV x xs else inV x xs)) H
theorem op_in_seq:OpR X (compareOp .In) (rIn X.K false):=by
 intro pins s σ H x y v u Q I rx ry h
 obtain ⟨p,xs,rfl,hq,fx,fs,q⟩:=h
 subst ry
 rcases hq with hq | hq
 ·obtain ⟨its,r,pl,hz⟩:=I.list hq
  refine SeqAt.in_listAt (eqU x) pl.isList (fun w hw=>gK rx fx r fs w (by simpa using hw)) ⟨.bl _,H,I,rfl, ?_⟩
  rw [show its.toArray.any (eqU x)=its.any (eqU x) by simp,kn r fs]
  exact q
 ·obtain ⟨its,r,pl,hz⟩:=I.tuple hq
  refine SeqAt.in_tupleAt (eqU x) pl (fun w hw=>gK rx fx r fs w (by simpa using hw)) ⟨.bl _,H,I,rfl, ?_⟩
  rw [show its.toArray.any (eqU x)=its.any (eqU x) by simp,kn r fs]
  exact q
theorem op_notIn_seq:OpR X (compareOp .NotIn) (rIn X.K true):=by
 intro pins s σ H x y v u Q I rx ry h
 obtain ⟨p,xs,rfl,hq,fx,fs,q⟩:=h
 subst ry
 rcases hq with hq | hq
 ·obtain ⟨its,r,pl,hz⟩:=I.list hq
  refine SeqAt.notIn_listAt (eqU x) pl.isList (fun w hw=>gK rx fx r fs w (by simpa using hw)) ⟨.bl _,H,I,rfl, ?_⟩
  rw [show its.toArray.any (eqU x)=its.any (eqU x) by simp,kn r fs]
  exact q
 ·obtain ⟨its,r,pl,hz⟩:=I.tuple hq
  refine SeqAt.notIn_tupleAt (eqU x) pl (fun w hw=>gK rx fx r fs w (by simpa using hw)) ⟨.bl _,H,I,rfl, ?_⟩
  rw [show its.toArray.any (eqU x)=its.any (eqU x) by simp,kn r fs]
  exact q
theorem gr : CallR X (.builtin "len") (fun xs H Q => ∃ p ys, xs = [.ref p] ∧ (SqL X.K H p ys ∨ SqT X.K H p ys) ∧ Q (.int ys.length) H) := by
 intro pins s σ H xs us Q I r h
 obtain ⟨p,ys,rfl,hq,q⟩:=h
 obtain ⟨u,rfl,rx⟩:=gT r
 subst rx
 have hn:=line63
 rcases hq with hq | hq
 ·obtain ⟨its,r',pl,hz⟩:=I.list hq
  have hlen:=r'.length
  exact Calls.call_len_list pl.isList (by simp only [List.size_toArray] <;> omega) ⟨.int ys.length,H,I.tok _,⟨s.toks+1,by rw [List.size_toArray,hlen]⟩,q⟩
 ·obtain ⟨its,r',pl,hz⟩:=I.tuple hq
  have hlen:=r'.length
  exact len_tuple pl (by simp only [List.size_toArray] <;> omega) ⟨.int ys.length,H,I.tok _,⟨s.toks+1,by rw [List.size_toArray,hlen]⟩,q⟩
noncomputable def tyV (K:PySem.W.Frag) (T:String) (x:V) (H:Hp):Prop:=match x with
 | .str _ => T = "str"
 | .int _ => T = "int"
 | .ref p => (T = "list" ∧ ∃ xs, SqL K H p xs) ∨ (T = "tuple" ∧ ∃ o, K.lookup p = some o ∧ o.cls = .type "tuple" ∧ o.dict = none) ∨
   (T = "dict" ∧ ((∃ kvs, H p = some (.dK kvs)) ∨ ∃ kvs, H p = some (.dT kvs))) ∨ (T = "set" ∧ ∃ S n, H p = some (.set S n))
 | _=>False
theorem tyV_is {pins:List (Addr × Obj)} {σ:St} {H:Hp} {s:Shared} {T:String} {x:V} {v:Value} (I:Inv X pins σ H s) (r:RelV x v) (ty:tyV X.K T x H) :
  s.TypeIs v T∧∀ a,v=.ref a→∃ ob,s.heap.get? a=some ob∧ob.dict=none:=by
 cases x with
 | str z =>
  obtain ⟨t,rfl⟩:=r
  cases (show T = "str" from ty)
  exact ⟨typeIs_str s z t,fun _ e=>nomatch e⟩
 | int i =>
  obtain ⟨t,rfl⟩:=r
  cases (show T = "int" from ty)
  exact ⟨typeIs_int s i t,fun _ e=>nomatch e⟩
 | ref p =>
  subst r
  rcases ty with ⟨rfl,xs,hq⟩ | ⟨rfl,o,hk,hc,hd⟩ | ⟨rfl,hk⟩ | ⟨rfl,S,n,hk⟩
  ·obtain ⟨its,_,pl,_⟩:=I.list hq
   refine ⟨pl.isList.typeIs,fun a e=>?_⟩
   (injection e with e; subst e)
   obtain ⟨o,n,e,c,hd,_⟩:=pl
   exact ⟨o,e,hd⟩
  ·refine ⟨⟨o,I.kIn p o hk,hc⟩,fun a e=>?_⟩
   (injection e with e; subst e)
   exact ⟨o,I.kIn _ o hk,hd⟩
  ·have z:∃ o,s.heap.get? p=some o∧o.ExactDict:=by
    rcases hk with ⟨kvs,hk⟩ | ⟨kvs,hk⟩
    ·obtain ⟨_,_,_,_,o,_,_,e,ex,_⟩:=I.hok p _ hk
     exact ⟨o,e,ex⟩
    ·obtain ⟨_,_,_,_,o,_,_,e,ex,_⟩:=I.hok p _ hk
     exact ⟨o,e,ex⟩
   obtain ⟨o,e,ex⟩:=z
   refine ⟨⟨o,e,ex.1⟩,fun a e2=>?_⟩
   (injection e2 with e2; subst e2)
   exact ⟨o,e,ex.2.1⟩
  ·obtain ⟨o,_,_,_,e,ex,_⟩:=I.hok p _ hk
   refine ⟨⟨o,e,ex.1⟩,fun a e2=>?_⟩
   (injection e2 with e2; subst e2)
   exact ⟨o,e,ex.2.1⟩
 | _=>exact False.elim ty
noncomputable def tBM0 (K:PySem.W.Frag) (T:String) (r:V→List V→Hp→VK→Prop) (to:TE):TE:=fun σ H Q=>to σ H fun x H1=>tyV K T x H1∧r x [] H1 Q
noncomputable def tBM (K:PySem.W.Frag) (T:String) (r:V→List V→Hp→VK→Prop) (to:TE) (t:TA):TE:=fun σ H Q=>to σ H fun x H1=>tyV K T x H1∧t σ H1 fun xs H2=>r x xs H2 Q
variable {o e:Expr} {es:List Expr} {to:TE} {t:TA} {name:Str} {apos cpos:Pos} {T id:String} {r:V→List V→Hp→VK→Prop}
theorem pe_bm0 (pa : PlainAttrs T) (slot : Slot T name id) (hty : typeOf (.builtin id) = pure (.type "method_descriptor")) (hm : MtR X id r) (ho : PE X o to)
  (hbase:attributeBase o name X.env (eval o X.env)=eval o X.env:=by rfl) (hline:(apos.endLine == cpos.line)=true:=by rfl):PE X (.Call (.Attribute o name apos) [] [] cpos) (tBM0 X.K T r to):=by
 intro pins s σ H Q I h
 refine wpAny_Call_method0_late hbase hline (thn (ho pins s σ H _ I h) fun v s1 hh_=>?_)
 obtain ⟨x,H1,I1,r1,ty,q1⟩:=hh_
 obtain ⟨h1,h2⟩:=tyV_is I1 r1 ty
 exact ⟨T,id,pa,slot,hty,h1,h2,Calls.callWith_builtin rfl (PySem.evalArgs_none (hm pins s1 σ H1 x [] v [] Q I1 r1 .nil q1))⟩
theorem pe_bm (pa : PlainAttrs T) (slot : Slot T name id) (hty : typeOf (.builtin id) = pure (.type "method_descriptor")) (hm : MtR X id r) (ho : PE X o to) (ha : PA X (e :: es) t)
  (hbase:attributeBase o name X.env (eval o X.env)=eval o X.env:=by rfl)
  (hfew:((backTo cpos (starEach (e::es) X.env)).all (fun x=>!x.1) && (backToKw cpos (keywordEach [] X.env)).all (fun x=>x.1.isSome)
   && decide ((e::es).length+([]:List Keyword).length+(if ([]:List Keyword).isEmpty then 0 else 1) < 30))=true:=by rfl)
  (hline:(apos.endLine == cpos.line)=true:=by rfl) (hs:starEach (e::es) X.env=(false,eval e X.env)::starEach es X.env:=by rfl) (hplain:(backTo cpos (starEach es X.env)).any (·.1)=false:=by rfl) :
  PE X (.Call (.Attribute o name apos) (e::es) [] cpos) (tBM X.K T r to t):=by
 intro pins s σ H Q I h
 refine wpAny_Call_method_late hbase hfew hline rfl (thn (ho pins s σ H _ I h) fun v s1 hh_=>?_)
 refine zz fun P_ k_=>?_
 obtain ⟨x,H1,I1,r1,ty,q1⟩:=hh_
 obtain ⟨h1,h2⟩:=tyV_is I1 r1 ty
 refine k_ ?_
 refine ⟨T,id,pa,slot,hty,h1,h2, ?_⟩
 have hA:=ha cpos pins s1 σ H1 _ I1 q1
 rw [hs] at hA ⊢
 refine Calls.callWith_builtin (by show (false || (backTo cpos (starEach es X.env)).any (·.1))=false; rw [hplain] <;> rfl) (Calls.evalArgs_plain ?_)
 exact thn hA fun us s2 ⟨vs,H2,I2,r2,q2⟩=>hm pins s2 σ H2 x vs v us Q I2 r1 r2 q2
end
end L2
namespace L2
open PySem PySem.Spec PyProof.Rows
noncomputable def MtM (X:Cx) (id:String) (r:V→List V→Hp→VK→Prop):Prop :=
 ∀ (pins:List (Addr × Obj)) (s:Shared) (σ:St) (H:Hp) (x:V) (xs:List V) (v:Value) (us:List Value) (Q:VK),Inv X pins σ H s→RelV x v→Vals xs us→r x xs H Q →
  wpAny (model X.prog X.w) X.A (call (.builtin id) (v::us)) (EP X pins σ Q) X.xe s
theorem Vals.one:∀ {x:V} {us:List Value},Vals [x] us→∃ u,us=[u]∧RelV x u:=by
 intro x us h
 rcases h with _ | ⟨r,h⟩
 cases h
 exact ⟨_,rfl,r⟩
theorem Vals.two:∀ {x y:V} {us:List Value},Vals [x,y] us→∃ u v,us=[u,v]∧RelV x u∧RelV y v:=by
 intro x y us h
 rcases h with _ | ⟨r,h⟩
 rcases h with _ | ⟨q,h⟩
 cases h
 exact ⟨_,_,rfl,r,q⟩
theorem Vals.zero:∀ {us:List Value},Vals [] us→us=[]:=by
 intro us h
 cases h
 rfl
theorem Vals.dropLast {xs:List V} {us:List Value} (h:Vals xs us):Vals xs.dropLast us.dropLast:=by
 induction h with
 | nil=>exact .nil
 | cons r t ih =>
  cases t with
  | nil=>exact .nil
  | cons q t'=>exact .cons r ih
theorem Vals.reverse {xs:List V} {us:List Value} (h:Vals xs us):Vals xs.reverse us.reverse:=by
 induction h with
 | nil=>exact .nil
 | cons r t ih=>rw [List.reverse_cons,List.reverse_cons]; exact Vals.append ih (.cons r .nil)
section
variable {X:Cx} {pins:List (Addr × Obj)} {σ:St} {H:Hp} {s:Shared} {l b:Addr} {xs ys zs:List V}
theorem Inv.lset {its its':List Value} {n:Nat} {f:Array Value→Array Value} {t':Nat} (I:Inv X pins σ H s) (hH:H l=some (.lst xs))
  (e : s.heap.get? l = some { cls := .type "list", data := .seq its.toArray n }) (hf : f its.toArray = its'.toArray) (hv : Vals ys its') (hz : ys.length ≤ sizeLine) :
  Inv X pins σ (upd H l (.lst ys)) { s with heap:=s.heap.update l (Obj.mapSeq f),toks:=t' }:=by
 have q:=PySem.IsL.update e f
 rw [hf] at q
 refine I.write (x:=l) (e:=l) (by rw [hH]; exact trivial) (.inl rfl) (fun b' u hb hu=>(Heap.get?_update_other s.heap (Obj.mapSeq f) (Ne.symm hb)).trans hu) ⟨_,q⟩ ?_
 exact ⟨hz,its',_,hv,q⟩
theorem Inv.lnew {its:List Value} {t':Nat} (I:Inv X pins σ H s) (hv:Vals ys its) (hz:ys.length≤sizeLine) :
  Inv X pins σ (upd H s.heap.objs.size (.lst ys)) { s with heap := s.heap.push { cls := .type "list", data := .seq its.toArray }, toks := t' } :=
 I.laid (fun _ _ q=>Heap.get?_push_of_some _ q) (Nat.le_refl _) ⟨hz,its,0,hv,Heap.get?_push_size _ rfl⟩
theorem Inv.fresh (I:Inv X pins σ H s):H s.heap.objs.size=none:=I.hok.fresh (Nat.le_refl _)
theorem Inv.lstM (I : Inv X pins σ H s) (hH : H l = some (.lst xs)) : xs.length ≤ sizeLine ∧ ∃ (its : List Value) (n : Nat), Vals xs its ∧ xs.length = its.length ∧ s.heap.get? l = some { cls := .type "list", data := .seq its.toArray n } := by
 obtain ⟨z,its,n,r,e⟩:=I.hok l _ hH
 exact ⟨z,its,n,r,r.length,e⟩
end
section
variable {X:Cx}
noncomputable def ia:V→List V→Hp→VK→Prop:=fun x vs H Q=>∃ l xs y,x=.ref l∧vs=[y]∧H l=some (.lst xs)∧xs.length < sizeLine∧Q .non (upd H l (.lst (xs++[y])))
theorem cn : MtM X "list.append" ia := by
 intro pins s σ H x vs v us Q I rx rv h
 obtain ⟨l,xs,y,rfl,rfl,hH,hz,q⟩:=h
 subst rx
 obtain ⟨u,rfl,ru⟩:=rv.one
 obtain ⟨z,its,n,r,hl,e⟩:=I.lstM hH
 refine call_meets F.slot_list_append ⟨_,e,rfl⟩ F.entry_list_append (F.args_list_append_2 _ _) (PySem.list_append l its.toArray n u (by rw [List.size_toArray]; omega)) ⟨e, ?_⟩
 refine ⟨.non,_,I.lset (its':=its++[u]) hH e (by simp) (r.append (.cons ru .nil)) ?_,rfl,q⟩
 rw [List.length_append,List.length_singleton]
 assumption
noncomputable def fM:V→List V→Hp→VK→Prop:=fun x vs H Q=>∃ l xs,x=.ref l∧vs=[]∧H l=some (.lst xs)∧Q .non (upd H l (.lst xs.reverse))
theorem je : MtM X "list.reverse" fM := by
 intro pins s σ H x vs v us Q I rx rv h
 obtain ⟨l,xs,rfl,rfl,hH,q⟩:=h
 subst rx
 have hus:=rv.zero
 subst hus
 obtain ⟨z,its,n,r,hl,e⟩:=I.lstM hH
 refine call_meets F.slot_list_reverse ⟨_,e,rfl⟩ F.entry_list_reverse (F.args_list_reverse_1 _) (AutoSeq1.list_reverse_list_0 l its.toArray n (by rw [List.size_toArray]; omega)) ⟨e, ?_⟩
 refine ⟨.non,_,I.lset (its':=its.reverse) hH e (by simp) r.reverse ?_,rfl,q⟩
 rw [List.length_reverse]
 assumption
noncomputable def rClear:V→List V→Hp→VK→Prop:=fun x vs H Q=>∃ l xs,x=.ref l∧vs=[]∧H l=some (.lst xs)∧Q .non (upd H l (.lst []))
theorem mt_clear : MtM X "list.clear" rClear := by
 intro pins s σ H x vs v us Q I rx rv h
 obtain ⟨l,xs,rfl,rfl,hH,q⟩:=h
 subst rx
 have hus:=rv.zero
 subst hus
 obtain ⟨z,its,n,r,hl,e⟩:=I.lstM hH
 refine call_meets F.slot_list_clear ⟨_,e,rfl⟩ F.entry_list_clear (F.args_list_clear_1 _) (AutoSeq1.list_clear_list_0 l its.toArray n (by rw [List.size_toArray]; omega)) ⟨e, ?_⟩
 exact ⟨.non,_,I.lset (its':=[]) (ys:=[]) hH e rfl .nil (Nat.zero_le _),rfl,q⟩
end
section
variable {prog:Program} {w:World} {A:Around} {E:Value→Shared→Prop} {s:Shared}
end
section
variable {X:Cx}
end
end L2
namespace L2
open PySem PySem.Spec PyProof.Rows
section
variable {κ:Type} [DecidableEq κ]
noncomputable def valV (kvs:List (κ × V)) (k:κ):Option V:=(kvs.find? fun kv=>decide (kv.1=k)).map (·.2)
noncomputable def putK (kvs:List (κ × V)) (k:κ) (v:V):List (κ × V) :=
 if (kvs.any fun kv=>decide (kv.1=k))=true then kvs.map (fun kv=>if kv.1=k then (kv.1,v) else kv) else kvs++[(k,v)]
theorem gD {p:κ × V} {r:List (κ × V)} {k:κ} (e:p.1=k):valV (p::r) k=some p.2:=by simp [valV,List.find?_cons,e]
theorem gE {p:κ × V} {r:List (κ × V)} {k:κ} (e:¬ p.1=k):valV (p::r) k=valV r k:=by simp [valV,List.find?_cons,e]
theorem valV_any (k:κ):∀ kvs:List (κ × V),(kvs.any fun kv=>decide (kv.1=k))=(valV kvs k).isSome:=by
 intro x_0
 induction x_0 with
 | nil =>
  exact rfl
 | cons p r ih_ =>
  rw [List.any_cons]
  by_cases e:p.1=k
  ·simp only [gD e,decide_eq_true e,Bool.true_or,Option.isSome_some]
  ·rw [gE e,decide_eq_false e,Bool.false_or]; exact ih_
theorem fA (kvs:List (κ × V)) (k:κ) (v:V):(putK kvs k v).length≤kvs.length+1:=by
 unfold putK
 split
 ·rw [List.length_map]; exact Nat.le_add_right _ _
 ·rw [List.length_append,List.length_cons,List.length_nil]; exact Nat.le_refl _
theorem RelO.isSome_eq {o:Option V} {u:Option Value} (r:RelO o u):o.isSome=u.isSome:=by
 cases o with
 | none=>cases u with
  | none=>rfl
  | some _=>exact (show False from r).elim
 | some _=>cases u with
  | none=>exact (show False from r).elim
  | some _=>rfl
theorem RelO.getD {o:Option V} {u:Option Value} {d:V} {d':Value} (r:RelO o u) (rd:RelV d d'):RelV (o.getD d) (u.getD d'):=by
 cases o with
 | none=>cases u with
  | none=>exact rd
  | some _=>exact (show False from r).elim
 | some _=>cases u with
  | none=>exact (show False from r).elim
  | some _=>exact r
theorem KV.val {kvs:List (κ × V)} {vs:List (κ × Value)} (r:KV kvs vs) (k:κ):RelO (valV kvs k) (valueAt vs k):=by
 unfold KV at r
 induction r with
 | nil=>exact True.intro
 | @cons p q ps qs h t ih =>
  obtain ⟨h1,h2⟩:=h
  by_cases e:p.1=k
  ·have e':q.1=k:=h1.symm.trans e
   have b:valueAt (q::qs) k=some q.2:=by simp [valueAt,List.find?_cons,e']
   rw [gD e,b]; exact h2
  ·have e':¬ q.1=k:=fun z=>e (h1.trans z)
   have b:valueAt (q::qs) k=valueAt qs k:=by simp [valueAt,List.find?_cons,e']
   rw [gE e,b]; exact ih
theorem KV.any {kvs:List (κ × V)} {vs:List (κ × Value)} (r:KV kvs vs) (k:κ):(kvs.any fun kv=>decide (kv.1=k))=vs.any fun kv=>decide (kv.1=k):=by
 unfold KV at r
 induction r with
 | nil=>rfl
 | cons h t ih=>rw [List.any_cons,List.any_cons,ih,h.1]
theorem KV.repl {kvs:List (κ × V)} {vs:List (κ × Value)} (r:KV kvs vs) (k:κ) {y:V} {u:Value} (ry:RelV y u) :
  KV (kvs.map fun kv=>if kv.1=k then (kv.1,y) else kv) (vs.map fun kv=>if kv.1=k then (kv.1,u) else kv):=by
 unfold KV at r ⊢
 induction r with
 | nil=>exact .nil
 | @cons p q ps qs h t ih =>
  rw [List.map_cons,List.map_cons]
  refine .cons ?_ ih
  obtain ⟨h1,h2⟩:=h
  by_cases e:p.1=k
  ·rw [if_pos e,if_pos (h1.symm.trans e)]; exact ⟨h1,ry⟩
  ·rw [if_neg e,if_neg (fun z=>e (h1.trans z))]; exact ⟨h1,h2⟩
theorem KV.put {kvs:List (κ × V)} {vs:List (κ × Value)} (r:KV kvs vs) (k:κ) {y:V} {u:Value} (ry:RelV y u):KV (putK kvs k y) (stored vs k u):=by
 unfold putK stored
 rw [r.any k]
 by_cases e:(vs.any fun kv=>decide (kv.1=k))=true
 ·rw [if_pos e,if_pos e]; exact r.repl k ry
 ·rw [if_neg e,if_neg e]; exact Paired.snoc r ⟨rfl,ry⟩
theorem KV.keys {kvs:List (κ × V)} {vs:List (κ × Value)} (r:KV kvs vs):kvs.map (·.1)=vs.map (·.1):=by
 unfold KV at r
 induction r with
 | nil=>rfl
 | cons h t ih=>rw [List.map_cons,List.map_cons,ih,h.1]
theorem KV.length {kvs:List (κ × V)} {vs:List (κ × Value)} (r:KV kvs vs):kvs.length=vs.length:=Paired.length r
end
theorem kV_is {P:Program} {w:World} {k:Key} {u:Value} (r:RelV (kV k) u):(bp P w).is k u=true:=by
 cases k with
 | inl i=>obtain ⟨t,e⟩:=(show ∃ t,u=Value.int i t from r); subst e; exact mixKind_int P w i t
 | inr x=>obtain ⟨t,e⟩:=(show ∃ t,u=Value.str x t from r); subst e; exact mixKind_str P w x t
theorem items_are {P:Program} {w:World}:∀ {ks:List Key} {us:List Value},Vals (ks.map kV) us→ItemsAre (bp P w) ks us:=by
 intro x_0
 induction x_0 with
 | nil =>
  intro _ r
  rw [List.map_nil] at r; cases r; exact .nil
 | cons k ks ih_ =>
  intro _ r
  rw [List.map_cons] at r
  cases r with
  | cons h t=>exact .cons (kV_is h) (ih_ t)
noncomputable abbrev KT (H:Hp):List (List Key × V)→List (List Key × Addr × Value)→Prop:=Paired fun p q=>p.1=q.1∧H q.2.1=some (.tup (p.1.map kV))∧RelV p.2 q.2.2
theorem KT.val {H:Hp} {kvs:List (List Key × V)} {xs:List (List Key × Addr × Value)} (r:KT H kvs xs) (k:List Key):RelO (valV kvs k) ((atKey xs k).map (·.2)):=by
 induction r with
 | nil=>exact True.intro
 | @cons p q ps qs h t ih =>
  obtain ⟨h1,_,h2⟩:=h
  by_cases e:p.1=k
  ·have e':q.1=k:=h1.symm.trans e
   have b:atKey (q::qs) k=some q.2:=by simp [atKey,List.find?_cons,e']
   rw [gD e,b]; exact h2
  ·have e':¬ q.1=k:=fun z=>e (h1.trans z)
   have b:atKey (q::qs) k=atKey qs k:=by simp [atKey,List.find?_cons,e']
   rw [gE e,b]; exact ih
theorem KT.repl {H:Hp} {kvs:List (List Key × V)} {xs:List (List Key × Addr × Value)} (r:KT H kvs xs) (k:List Key) {y:V} {u:Value} (ry:RelV y u) :
  KT H (kvs.map fun kv=>if kv.1=k then (kv.1,y) else kv) (xs.map (putAt k u)):=by
 induction r with
 | nil=>exact .nil
 | @cons p q ps qs h t ih =>
  rw [List.map_cons,List.map_cons]
  refine .cons ?_ ih
  obtain ⟨h1,h2,h3⟩:=h
  unfold putAt
  by_cases e:p.1=k
  ·rw [if_pos e,if_pos (h1.symm.trans e)]; exact ⟨h1,h2,ry⟩
  ·rw [if_neg e,if_neg (fun z=>e (h1.trans z))]; exact ⟨h1,h2,h3⟩
theorem KT.put {H:Hp} {kvs:List (List Key × V)} {xs:List (List Key × Addr × Value)} (r:KT H kvs xs) (k:List Key) {b:Addr} {y:V} {u:Value} (hb:H b=some (.tup (k.map kV))) (ry:RelV y u) :
  KT H (putK kvs k y) (storedH xs k b u):=by
 have e:(kvs.any fun kv=>decide (kv.1=k))=(atKey xs k).isSome:=by
  rw [valV_any,(r.val k).isSome_eq,Option.isSome_map]
 unfold putK storedH
 rw [e]
 by_cases q:(atKey xs k).isSome=true
 ·rw [if_pos q,if_pos q]; exact r.repl k ry
 ·rw [if_neg q,if_neg q]; exact Paired.snoc r ⟨rfl,hb,ry⟩
theorem KT.keeps {H H':Hp} {kvs:List (List Key × V)} {xs:List (List Key × Addr × Value)} (r:KT H kvs xs) (ht:∀ b ys,H b=some (.tup ys)→H' b=some (.tup ys)):KT H' kvs xs :=
 Paired.mapP r fun _ _ z=>⟨z.1,ht _ _ z.2.1,z.2.2⟩
section
variable {P:Program} {w:World} {H:Hp} {h:Heap} {a:Addr}
theorem rd_of {u:HO} (ok:HOk P w H h) (e:Rd H a u):ce P w H h a u:=e.ok ok
theorem gh {kvs:List (Key × V)} (ok:HOk P w H h) (e:Rd H a (.dK kvs)):ODic P w h a kvs :=
 show ce P w H h a (.dK kvs) from rd_of ok e
theorem dk_of {kvs:List (Key × V)} (ok:HOk P w H h) (e:H a=some (.dK kvs)):ODic P w h a kvs:=gh ok (.inl e)
theorem io {ks:List Key} (ok:HOk P w H h) (e:H a=some (.tup (ks.map kV))):(tupleKind (bp P w)).is h ks a:=by
 obtain ⟨_,its,r,o,h1,h2,n,h3⟩:=(show ce P w H h a (.tup (ks.map kV)) from ok a _ e)
 exact ⟨o,its.toArray,n,h1,h2,h3,by simpa using items_are r⟩
theorem dt_rd {kvs:List (List Key × V)} (ok:HOk P w H h) (e:Rd H a (.dT kvs)):kvs.length≤sizeLine∧(a == sysModules)=false ∧
  ∃ xs,KT H kvs xs∧h.DictOfH (tupleKind (bp P w)) a xs:=by
 refine zz fun P_ k_=>?_
 obtain ⟨z,y,xs,r,o,es,ep,h1,h2,h3,h4,h5⟩:=(show ce P w H h a (.dT kvs) from rd_of ok e)
 refine k_ ?_
 refine ⟨z,y,xs,r,o,es,ep,h1,h2,h3,h4,fun x hx=>?_,h5⟩
 have all:∀ {l:List (List Key × V)} {m:List (List Key × Addr × Value)},KT H l m→∀ x∈m,(tupleKind (bp P w)).is h x.1 x.2.1:=by
  intro l m q
  induction q with
  | nil=>intro x hx; exact nomatch hx
  | @cons p q ps qs hq t ih =>
   intro x hx
   rcases List.mem_cons.mp hx with e | hx
   ·subst e
    exact io ok (by rw [← hq.1]; exact hq.2.1)
   ·exact ih x hx
 exact all r x hx
theorem dt_of {kvs:List (List Key × V)} (ok:HOk P w H h) (e:H a=some (.dT kvs)):kvs.length≤sizeLine∧(a == sysModules)=false ∧
  ∃ xs,KT H kvs xs∧h.DictOfH (tupleKind (bp P w)) a xs:=dt_rd ok (.inl e)
end
noncomputable def DGet (H:Hp) (a:Addr) (y:V) (r:Option V):Prop :=
 (∃ kvs k,Rd H a (.dK kvs)∧y=kV k∧r=valV kvs k)∨∃ kvs k b,Rd H a (.dT kvs)∧y=.ref b∧H b=some (.tup (k.map kV))∧r=valV kvs k
noncomputable def DPut (H:Hp) (a:Addr) (y v:V) (H':Hp):Prop :=
 (∃ kvs k,H a=some (.dK kvs)∧y=kV k∧kvs.length < sizeLine∧H'=upd H a (.dK (putK kvs k v))) ∨
 ∃ kvs k b,H a=some (.dT kvs)∧y=.ref b∧H b=some (.tup (k.map kV))∧kvs.length < sizeLine∧H'=upd H a (.dT (putK kvs k v))
theorem DGet.t {H:Hp} {a b:Addr} {kvs:List (List Key × V)} {k:List Key} (e:H a=some (.dT kvs)) (eb:H b=some (.tup (k.map kV))):DGet H a (.ref b) (valV kvs k):=.inr ⟨kvs,k,b,.inl e,rfl,eb,rfl⟩
theorem DPut.k {H:Hp} {a:Addr} {kvs:List (Key × V)} {k:Key} {v:V} (e:H a=some (.dK kvs)) (hl:kvs.length < sizeLine):DPut H a (kV k) v (upd H a (.dK (putK kvs k v))):=.inl ⟨kvs,k,e,rfl,hl,rfl⟩
theorem DPut.t {H:Hp} {a b:Addr} {kvs:List (List Key × V)} {k:List Key} {v:V} (e:H a=some (.dT kvs)) (eb:H b=some (.tup (k.map kV))) (hl:kvs.length < sizeLine) :
  DPut H a (.ref b) v (upd H a (.dT (putK kvs k v))):=.inr ⟨kvs,k,b,e,rfl,eb,hl,rfl⟩
section
variable {X:Cx} {pins:List (Addr × Obj)} {σ:St} {H:Hp} {s:Shared} {a:Addr} {y v:V} {u r:Value} {o:Option V} {A:Around} {E:Value→Shared→Prop}
theorem Inv.big (I:Inv X pins σ H s):sysModules < s.heap.objs.size:=by
 have h:mainGlobals < s.heap.objs.size:=(I.mod.glob.keeps I.bk).lt
 exact Nat.lt_trans (by decide) h
theorem d_getItem {Q:Value→Shared→Prop} (hu:A.units+1 < cLine) (I:Inv X pins σ H s) (g:DGet H a y (some v)) (ry:RelV y u) (h:∀ w' s',Inv X pins σ H s'→RelV v w'→Q w' s') :
  wpAny (model X.prog X.w) A (getItem (.ref a) u) Q E s:=by
 rcases g with ⟨kvs,k,e,ey,l⟩ | ⟨kvs,k,b,e,ey,eb,l⟩
 ·subst ey
  refine zz fun P_ k_=>?_
  obtain ⟨z,hd,vs,rel,dd⟩:=gh I.hok e
  obtain ⟨w',hw,rw'⟩:=RelO.some_of (v:=v) (o:=valueAt vs k) (by rw [l]; exact rel.val k)
  refine k_ ?_
  exact wpAny_getItem_of (kV_is ry) dd.mapOf hw (h w' _ (I.tok _) rw')
 ·subst ey
  cases (show u=Value.ref b from ry)
  refine zz fun P_ k_=>?_
  obtain ⟨z,hd,xs,rel,dd⟩:=dt_rd I.hok e
  obtain ⟨w',hw,rw'⟩:=RelO.some_of (v:=v) (o:=(atKey xs k).map (·.2)) (by rw [l]; exact rel.val k)
  obtain ⟨p,hp,hp2⟩:=Option.map_eq_some_iff.mp hw
  refine k_ ?_
  refine wpAny_getItem_heap (tupleKind_room_in1 hu) (io I.hok eb) dd hp ?_
  rw [hp2]
  exact h w' _ (I.tok _) rw'
theorem d_in {Q:Value→Shared→Prop} (hu:A.units+1 < cLine) (I:Inv X pins σ H s) (g:DGet H a y o) (ry:RelV y u) (h:∀ s',Inv X pins σ H s'→Q (.bool o.isSome) s') :
  wpAny (model X.prog X.w) A (compareOp .In u (.ref a)) Q E s:=by
 rcases g with ⟨kvs,k,e,ey,l⟩ | ⟨kvs,k,b,e,ey,eb,l⟩
 ·subst ey
  obtain ⟨z,hd,vs,rel,dd⟩:=gh I.hok e
  refine wpAny_in_of (kV_is ry) hd dd.mapOf ?_
  rw [← (rel.val k).isSome_eq,← l]
  exact h _ (I.tok _)
 ·subst ey
  cases (show u=Value.ref b from ry)
  obtain ⟨z,hd,xs,rel,dd⟩:=dt_rd I.hok e
  refine wpAny_in_heap (tupleKind_room_in1 hu) (io I.hok eb) hd dd ?_
  have q:=(rel.val k).isSome_eq
  rw [Option.isSome_map] at q
  rw [← q,← l]
  exact h _ (I.tok _)
theorem d_notIn {Q:Value→Shared→Prop} (hu:A.units+1 < cLine) (I:Inv X pins σ H s) (g:DGet H a y o) (ry:RelV y u) (h:∀ s',Inv X pins σ H s'→Q (.bool (!o.isSome)) s') :
  wpAny (model X.prog X.w) A (compareOp .NotIn u (.ref a)) Q E s:=by
 rcases g with ⟨kvs,k,e,ey,l⟩ | ⟨kvs,k,b,e,ey,eb,l⟩
 ·subst ey
  obtain ⟨z,hd,vs,rel,dd⟩:=gh I.hok e
  refine wpAny_notIn_of (kV_is ry) hd dd.mapOf ?_
  rw [← (rel.val k).isSome_eq,← l]
  exact h _ (I.tok _)
 ·subst ey
  cases (show u=Value.ref b from ry)
  obtain ⟨z,hd,xs,rel,dd⟩:=dt_rd I.hok e
  refine wpAny_notIn_heap (tupleKind_room_in1 hu) (io I.hok eb) hd dd ?_
  have q:=(rel.val k).isSome_eq
  rw [Option.isSome_map] at q
  rw [← q,← l]
  exact h _ (I.tok _)
theorem d_write {h':Heap} {t':Nat} {ob:HO} (I:Inv X pins σ H s) (mu:Mut (H a)) (hs:Heap.SameBut a s.heap h') (he:∃ q,h'.get? a=some q) (new:ce X.prog X.w (upd H a ob) h' a ob) :
  Inv X pins σ (upd H a ob) { s with heap:=h',toks:=t' } :=
 I.write (x:=a) (e:=a) mu (.inl rfl) (fun b q hb z=>(hs.2 b hb).trans z) he new
theorem dk_new {P:Program} {w:World} {H':Hp} {h':Heap} {kvs:List (Key × V)} {vs:List (Key × Value)} (z:kvs.length≤sizeLine) (hd:(a == sysModules)=false) (rel:KV kvs vs) (dd:h'.DictOf (bp P w) a vs) :
  ce P w H' h' a (.dK kvs):=⟨z,hd,vs,rel,dd⟩
theorem d_setItem {H':Hp} {Q:Unit→Shared→Prop} (hu:A.units+1 < cLine) (I:Inv X pins σ H s) (g:DPut H a y v H') (ry:RelV y u) (rv:RelV v r) (h:∀ s',Inv X pins σ H' s'→Q () s') :
  wpAny (model X.prog X.w) A (setItem (.ref a) u r) Q E s:=by
 rcases g with ⟨kvs,k,e,ey,l,eH⟩ | ⟨kvs,k,b,e,ey,eb,l,eH⟩
 ·subst ey eH
  refine zz fun P_ k_=>?_
  obtain ⟨z,hd,vs,rel,dd⟩:=dk_of I.hok e
  refine k_ ?_
  have hz:vs.length≤sizeLine:=by rw [← rel.length]; exact z
  have hl:(putK kvs k v).length≤sizeLine:=by have:=fA kvs k v; exact Nat.le_trans ‹_› ‹_›
  refine wpAny_setItem_pairs (hsz:=hz) (kV_is ry) dd fun h' dd' hs=>h _ ?_
  have he:∃ q,h'.get? a=some q:=let ⟨q,_,_,hq,_⟩:=dd'; ⟨q,hq⟩
  exact d_write I (by rw [e]; exact True.intro) hs he (dk_new hl hd (rel.put k rv) dd')
 ·subst ey eH
  cases (show u=Value.ref b from ry)
  refine zz fun P_ k_=>?_
  obtain ⟨z,hd,xs,rel,dd⟩:=dt_of I.hok e
  refine k_ ?_
  have hz:xs.length≤sizeLine:=by rw [← Paired.length rel]; exact z
  have hl:(putK kvs k v).length≤sizeLine:=by have:=fA kvs k v; exact Nat.le_trans ‹_› ‹_›
  refine wpAny_setItem_heap (hsz:=hz) (tupleKind_room_in1 hu) (io I.hok eb) dd fun h' dd' hs=>h _ ?_
  refine zz fun P_ k_=>?_
  obtain ⟨q,es,ep,hq,h2,h3,h4,_,h5⟩:=dd'
  refine k_ ?_
  refine d_write I (by rw [e]; exact True.intro) hs ⟨q,hq⟩ ⟨hl,hd,_,(rel.put k eb rv).keeps fun c ys ec=>?_,q,es,ep,hq,h2,h3,h4,h5⟩
  rw [aj (ne_of ec e (fun z=>nomatch z))]
  exact ec
end
section
variable {X:Cx} {pins:List (Addr × Obj)} {σ:St} {H:Hp} {s:Shared} {a:Addr} {kvs:List (Key × V)} {k:Key} {u:Value} {A:Around} {E:Value→Shared→Prop}
theorem d_len {Q : Value → Shared → Prop} (I : Inv X pins σ H s) (e : Rd H a (.dK kvs)) (h : ∀ t s', Inv X pins σ H s' → Q (.int kvs.length t) s') : wpAny (model X.prog X.w) A (call (.builtin "len") [.ref a]) Q E s := by
 obtain ⟨z,hd,vs,rel,dd⟩:=gh I.hok e
 refine call_len_dict hd dd (by rw [← rel.length]; rw [sizeLine_eq] at z; omega) ?_
 rw [← rel.length]
 exact h _ _ (I.tok _)
end
noncomputable def NoSl (i:Expr):Prop:=∀ ov iv,subscripted i false ov iv=operate [ov,iv] (getItem ov iv)
theorem subD_of {prog:Program} {w:World} {A:Around} {E:Value→Shared→Prop} {s:Shared} {env:Env} {value slice:Expr} {pos:Pos} {T id:String} {Q:Value→Shared→Prop}
  (hl : typeLookup (.type T) "__getitem__" = pure (some (.builtin id))) (hs : NoSl slice)
  (h:wpAny (model prog w) A (eval value env) (fun o s₁=>wpAny (model prog w) A (eval slice env) (fun i s₂=>s₂.TypeIs o T∧wpAny (model prog w) A (getItem o i) Q E s₂) E s₁) E s) :
  wpAny (model prog w) A (eval (.Subscript value slice pos) env) Q E s:=by
 refine Subscript_ (wpAny_mono h (fun o s₁ h₁=>wpAny_mono h₁ (fun i s₂ h₂=>?_) fun _ _ x=>x) fun _ _ x=>x)
 obtain ⟨hT,h₂⟩:=h₂
 unfold subscriptTail
 refine wpAny_bind ?_
 rw [getitemInPython_of_ne hT.not_modules]
 refine wpAny_bind (wpAny_specialOf hT hl ?_)
 have fin:wpAny (model prog w) A (subscripted slice false o i) (fun r s₃=>wpAny (model prog w) A (letTemporaryGo value o r >>= fun _=>pure r) Q E s₃) E s₂:=by
  rw [hs o i]
  exact wpAny_operating (wpAny_mono h₂ (fun r s₃ h₃=>wpAny_bind (wpAny_letTemporaryGo (wpAny_pure h₃))) fun _ _ x=>x)
 first
  | exact wpAny_pure (wpAny_bind fin)
  | exact wpAny_bind (wpAny_pure (wpAny_bind fin))
  | exact wpAny_bind fin
theorem dict_typeIs {X : Cx} {pins : List (Addr × Obj)} {σ : St} {H : Hp} {s : Shared} {a : Addr} {y : V} {o : Option V} (I : Inv X pins σ H s) (g : DGet H a y o) : s.TypeIs (.ref a) "dict" := by
 rcases g with ⟨kvs,k,e,_,_⟩ | ⟨kvs,k,b,e,_,_,_⟩
 ·obtain ⟨_,_,vs,_,dd⟩:=gh I.hok e
  exact dd.typeIs
 ·obtain ⟨_,_,xs,_,dd⟩:=dt_rd I.hok e
  exact dd.typeIs
noncomputable def tDGet (td ty:TE):TE:=fun σ H Q=>td σ H fun x H1=>ty σ H1 fun y H2=>∃ a v,x=.ref a∧DGet H2 a y (some v)∧Q v H2
noncomputable def sDPut (td ty tv:TE):TS:=fun D σ H=>tv σ H fun v H1=>td σ H1 fun x H2=>ty σ H2 fun y H3=>∃ a H4,x=.ref a∧DPut H3 a y v H4∧D.nx σ H4
section
variable {X:Cx} {o i e value:Expr} {pos pos' tpos:Pos} {td ty tv:TE}
theorem pe_dget (hu:X.A.units+1 < cLine) (ho:PE X o td) (hi:PE X i ty) (hs:NoSl i):PE X (.Subscript o i pos) (tDGet td ty):=by
 intro pins s σ H Q I h
 refine subD_of PySem.F.slot_dict_getitem.lookup hs (thn (ho pins s σ H _ I h) fun u s1 ⟨x,H1,I1,rx,q1⟩=>thn (hi pins s1 σ H1 _ I1 q1) fun iv s2 hh_=>?_)
 obtain ⟨y,H2,I2,ry,a,v,ex,g,q2⟩:=hh_
 subst ex
 obtain rfl:u=Value.ref a:=rx
 exact ⟨dict_typeIs I2 g,d_getItem hu I2 g ry fun w' s3 I3 rw'=>⟨v,H2,I3,rw',q2⟩⟩
theorem ps_dput (hu:X.A.units+1 < cLine) (ho:PE X o td) (hi:PE X i ty) (hv:PE X value tv) (hs:swapsWith value (some (.Subscript o i pos')) pos.line X.env=pure false) :
  PS X (.Assign [.Subscript o i pos'] value pos) (sDPut td ty tv):=by
 intro pins s σ H D I h
 refine wpAny_Assign_Subscript (thn (hv pins s σ H _ I h) fun r s1 ⟨v,H1,I1,rv,q1⟩=>thn (ho pins s1 σ H1 _ I1 q1) fun u s2 ⟨x,H2,I2,rx,q2⟩=>thn (hi pins s2 σ H2 _ I2 q2) fun iv s3 hh_=>?_) hs
 obtain ⟨y,H3,I3,ry,a,H4,ex,g,q3⟩:=hh_
 subst ex
 obtain rfl:u=Value.ref a:=rx
 exact d_setItem hu I3 g ry rv fun s4 I4=>⟨σ,H4,I4,q3⟩
end
theorem dk_empty {P : Program} {w : World} {H : Hp} (h : Heap) (hb : sysModules < h.objs.size) : ce P w H (h.push { cls := .type "dict", data := .dict #[] }) h.objs.size (.dK []) :=
 ⟨Nat.zero_le _,beq_eq_false_iff_ne.mpr (Ne.symm (Nat.ne_of_lt hb)),[],.nil,Heap.DictOf.new h⟩
theorem dt_empty {P : Program} {w : World} {H : Hp} (h : Heap) (hb : sysModules < h.objs.size) : ce P w H (h.push { cls := .type "dict", data := .dict #[] }) h.objs.size (.dT []) :=
 ⟨Nat.zero_le _,beq_eq_false_iff_ne.mpr (Ne.symm (Nat.ne_of_lt hb)),[],.nil,_,#[],0,Heap.get?_push_size _ rfl,⟨rfl,rfl,rfl⟩,rfl,rfl,List.nodup_nil⟩
noncomputable def tDNewK:TE:=fun _ H Q=>∀ p,H p=none→Q (.ref p) (upd H p (.dK []))
noncomputable def tDNewT:TE:=fun _ H Q=>∀ p,H p=none→Q (.ref p) (upd H p (.dT []))
section
variable {X:Cx} {pos:Pos}
theorem pe_dnewK:PE X (.Dict [] [] pos) tDNewK:=fun pins s σ H Q I h =>
 wpAny_Dict_empty ⟨.ref s.heap.objs.size,_,I.laid (a:=s.heap.objs.size) (o:=.dK []) (t':=s.toks) (fun _ _ q=>Heap.get?_push_of_some _ q) (Nat.le_refl _) (dk_empty s.heap I.big),rfl,h _ (I.hok.fresh (Nat.le_refl _))⟩
theorem pe_dnewT:PE X (.Dict [] [] pos) tDNewT:=fun pins s σ H Q I h =>
 wpAny_Dict_empty ⟨.ref s.heap.objs.size,_,I.laid (a:=s.heap.objs.size) (o:=.dT []) (t':=s.toks) (fun _ _ q=>Heap.get?_push_of_some _ q) (Nat.le_refl _) (dt_empty s.heap I.big),rfl,h _ (I.hok.fresh (Nat.le_refl _))⟩
end
noncomputable def fh (kvs more:List (Key × V)):List (Key × V):=more.foldl (fun acc kv=>putK acc kv.1 kv.2) kvs
theorem KV.merge:∀ {more:List (Key × V)} {rs:List (Key × Value)} {kvs:List (Key × V)} {vs:List (Key × Value)},KV more rs→KV kvs vs→KV (fh kvs more) (merged vs rs):=by
 intro more rs kvs vs r
 unfold KV at r
 induction r generalizing kvs vs with
 | nil=>intro q; exact q
 | @cons p q ps qs h t ih =>
  intro r0
  have e:KV (putK kvs p.1 p.2) (stored vs q.1 q.2):=by
   have:=r0.put p.1 h.2
   rw [← h.1]; exact this
  exact ih e
theorem jW:∀ (more kvs:List (Key × V)),(fh kvs more).length≤kvs.length+more.length:=by
 intro x_0
 induction x_0 with
 | nil =>
  intro kvs
  show kvs.length≤kvs.length+0; exact Nat.le_refl _
 | cons p r ih_ =>
  intro kvs
  have h1:=ih_ (putK kvs p.1 p.2)
  have h2:=fA kvs p.1 p.2
  show (fh (putK kvs p.1 p.2) r).length≤_
  rw [List.length_cons]; omega
structure M1 (X:Cx) (o:Expr) (m:Str) (apos:Pos) (e:Expr) (cpos:Pos):Prop where
 base:attributeBase o m X.env (eval o X.env)=eval o X.env
 few:((backTo cpos (starEach [e] X.env)).all (fun x=>!x.1) && (backToKw cpos (keywordEach [] X.env)).all (fun x=>x.1.isSome)
  && decide (([e]:List Expr).length+([]:List Keyword).length+(if ([]:List Keyword).isEmpty then 0 else 1) < 30))=true
 line:(apos.endLine == cpos.line)=true
 trees:backTo cpos (starEach [e] X.env)=[(false,eval e X.env)]
structure M2 (X:Cx) (o:Expr) (m:Str) (apos:Pos) (e f:Expr) (cpos:Pos):Prop where
 base:attributeBase o m X.env (eval o X.env)=eval o X.env
 few:((backTo cpos (starEach [e,f] X.env)).all (fun x=>!x.1) && (backToKw cpos (keywordEach [] X.env)).all (fun x=>x.1.isSome)
  && decide (([e,f]:List Expr).length+([]:List Keyword).length+(if ([]:List Keyword).isEmpty then 0 else 1) < 30))=true
 line:(apos.endLine == cpos.line)=true
 trees:backTo cpos (starEach [e,f] X.env)=[(false,eval e X.env),(false,eval f X.env)]
noncomputable def IsD (H:Hp) (a:Addr):Prop:=(∃ kvs,Rd H a (.dK kvs))∨∃ kvs,Rd H a (.dT kvs)
theorem isD_at {X:Cx} {pins:List (Addr × Obj)} {σ:St} {H:Hp} {s:Shared} {a:Addr} (I:Inv X pins σ H s) (d:IsD H a) :
  s.TypeIs (.ref a) "dict" ∧ (∀ b, Value.ref a = .ref b → ∃ ob, s.heap.get? b = some ob ∧ ob.dict = none) ∧ (a == sysModules) = false := by
 rcases d with ⟨kvs,e⟩ | ⟨kvs,e⟩
 ·obtain ⟨_,hd,vs,_,dd⟩:=gh I.hok e
  refine ⟨dd.typeIs,fun b q=>?_,hd⟩
  (injection q with q; subst q)
  obtain ⟨ob,_,_,h1,h2,_⟩:=dd
  exact ⟨ob,h1,h2.2.1⟩
 ·obtain ⟨_,hd,xs,_,dd⟩:=dt_rd I.hok e
  refine ⟨dd.typeIs,fun b q=>?_,hd⟩
  (injection q with q; subst q)
  obtain ⟨ob,_,_,h1,h2,_⟩:=dd
  exact ⟨ob,h1,h2.2.1⟩
section
variable {X:Cx} {pins:List (Addr × Obj)} {σ:St} {H:Hp} {s:Shared} {a:Addr} {y d:V} {u r:Value} {o:Option V} {A:Around} {E:Value→Shared→Prop}
theorem d_get1 {Q:Value→Shared→Prop} (hu:A.units+1 < cLine) (I:Inv X pins σ H s) (g:DGet H a y o) (ry:RelV y u) (h:∀ w' s',Inv X pins σ H s'→RelV (o.getD .non) w'→Q w' s') :
  wpAny (model X.prog X.w) A (call (.builtin "dict.get") [.ref a, u]) Q E s := by
 rcases g with ⟨kvs,k,e,ey,l⟩ | ⟨kvs,k,b,e,ey,eb,l⟩
 ·subst ey
  obtain ⟨z,hd,vs,rel,dd⟩:=gh I.hok e
  refine call_meetsIn PySem.F.slot_dict_get dd.typeIs PySem.F.entry_dict_get (PySem.F.args_dict_get_2 _ _) (meets_dict_get (bp X.prog X.w) a (kV_is ry) hd) ⟨_,dd.mapOf,h _ _ (I.tok _) ?_⟩
  rw [l]
  exact (rel.val k).getD rfl
 ·subst ey
  cases (show u=Value.ref b from ry)
  obtain ⟨z,hd,xs,rel,dd⟩:=dt_rd I.hok e
  refine call_meetsIn PySem.F.slot_dict_get dd.typeIs PySem.F.entry_dict_get (PySem.F.args_dict_get_2 _ _) (meetsH_dict_get (tupleKind (bp X.prog X.w)) a b hd) ⟨tupleKind_room_in1 hu,k,xs,io I.hok eb,dd,h _ _ (I.tok _) ?_⟩
  rw [l]
  exact (rel.val k).getD rfl
theorem d_get2 {Q:Value→Shared→Prop} (hu:A.units+1 < cLine) (I:Inv X pins σ H s) (g:DGet H a y o) (ry:RelV y u) (rd:RelV d r) (h:∀ w' s',Inv X pins σ H s'→RelV (o.getD d) w'→Q w' s') :
  wpAny (model X.prog X.w) A (call (.builtin "dict.get") [.ref a, u, r]) Q E s := by
 rcases g with ⟨kvs,k,e,ey,l⟩ | ⟨kvs,k,b,e,ey,eb,l⟩
 ·subst ey
  obtain ⟨z,hd,vs,rel,dd⟩:=gh I.hok e
  refine call_meetsIn PySem.F.slot_dict_get dd.typeIs PySem.F.entry_dict_get (PySem.F.args_dict_get_3 _ _ _) (meets_dict_get_default (bp X.prog X.w) a (kV_is ry) hd r) ⟨_,dd.mapOf,h _ _ (I.tok _) ?_⟩
  rw [l]
  exact (rel.val k).getD rd
 ·subst ey
  cases (show u=Value.ref b from ry)
  obtain ⟨z,hd,xs,rel,dd⟩:=dt_rd I.hok e
  refine call_meetsIn PySem.F.slot_dict_get dd.typeIs PySem.F.entry_dict_get (PySem.F.args_dict_get_3 _ _ _) (meetsH_dict_get_default (tupleKind (bp X.prog X.w)) a b hd r) ⟨tupleKind_room_in1 hu,k,xs,io I.hok eb,dd,h _ _ (I.tok _) ?_⟩
  rw [l]
  exact (rel.val k).getD rd
end
noncomputable def tDGet1 (td ty:TE):TE:=fun σ H Q=>td σ H fun x H1=>∃ a,x=.ref a∧IsD H1 a∧ty σ H1 fun y H2=>∃ o,DGet H2 a y o∧Q (o.getD .non) H2
noncomputable def tDGet2 (td ty tx:TE):TE:=fun σ H Q=>td σ H fun x H1=>∃ a,x=.ref a∧IsD H1 a∧ty σ H1 fun y H2=>tx σ H2 fun z H3=>∃ o,DGet H3 a y o∧Q (o.getD z) H3
section
variable {X:Cx} {o e f:Expr} {apos cpos:Pos} {td ty tx:TE}
theorem pe_dget1 (hu : X.A.units + 1 < cLine) (ho : PE X o td) (he : PE X e ty) (m : M1 X o "get" apos e cpos) : PE X (.Call (.Attribute o "get" apos) [e] [] cpos) (tDGet1 td ty) := by
 intro pins s σ H Q I h
 refine wpAny_Call_method m.base m.few m.line PySem.F.plainAttrs_dict PySem.F.slot_dict_get PySem.F.type_dict_get (thn (ho pins s σ H _ I h) fun u s1 hh_=>?_)
 obtain ⟨x,H1,I1,rx,a,ex,d,q1⟩:=hh_
 subst ex
 obtain rfl:u=Value.ref a:=rx
 obtain ⟨t1,t2,_⟩:=isD_at I1 d
 refine ⟨t1,t2, ?_⟩
 rw [m.trees]
 refine Calls.callWith_builtin rfl (Calls.evalArgs_plain (Calls.spliced_cons (thn (he pins s1 σ H1 _ I1 q1) fun iv s2 ⟨y,H2,I2,ry,ov,g,q2⟩=>Calls.spliced_nil ?_)))
 exact d_get1 hu I2 g ry fun w' s3 I3 rw'=>⟨_,H2,I3,rw',q2⟩
theorem pe_dget2 (hu : X.A.units + 1 < cLine) (ho : PE X o td) (he : PE X e ty) (hf : PE X f tx) (m : M2 X o "get" apos e f cpos) : PE X (.Call (.Attribute o "get" apos) [e, f] [] cpos) (tDGet2 td ty tx) := by
 intro pins s σ H Q I h
 refine wpAny_Call_method m.base m.few m.line PySem.F.plainAttrs_dict PySem.F.slot_dict_get PySem.F.type_dict_get (thn (ho pins s σ H _ I h) fun u s1 hh_=>?_)
 obtain ⟨x,H1,I1,rx,a,ex,d,q1⟩:=hh_
 subst ex
 obtain rfl:u=Value.ref a:=rx
 obtain ⟨t1,t2,_⟩:=isD_at I1 d
 refine ⟨t1,t2, ?_⟩
 rw [m.trees]
 refine Calls.callWith_builtin rfl (Calls.evalArgs_plain (Calls.spliced_cons (thn (he pins s1 σ H1 _ I1 q1) fun iv s2 ⟨y,H2,I2,ry,q2⟩ =>
  Calls.spliced_cons (thn (hf pins s2 σ H2 _ I2 q2) fun fv s3 ⟨z,H3,I3,rz,ov,g,q3⟩=>Calls.spliced_nil ?_))))
 exact d_get2 hu I3 g ry rz fun w' s4 I4 rw'=>⟨_,H3,I4,rw',q3⟩
end
section
variable {X:Cx} {pins:List (Addr × Obj)} {σ:St} {H:Hp} {s:Shared} {a:Addr} {kvs:List (Key × V)} {A:Around} {E:Value→Shared→Prop}
end
section
variable {X:Cx} {pins:List (Addr × Obj)} {σ:St} {H:Hp} {s:Shared} {a:Addr} {y:V} {u:Value} {A:Around} {E:Value→Shared→Prop}
end
end L2
namespace Att
open PySem PySem.W PySem.Calls PyProof.Rows
theorem iw {P:Params} {h:Heap}:∀ (ns:List Int) (vs:List Value),WellAll P h vs (ns.map WData.int)→IntsAre vs ns:=by
 intro ns
 induction ns with
 | nil =>
  intro vs w
  rw [List.map_nil] at w
  cases w
  exact .nil
 | cons n ns ih =>
  intro vs w
  rw [List.map_cons] at w
  cases w with
  | cons a b =>
   cases a
   exact .cons _ _ (ih _ b)
theorem script_of {l:OpenLaw} {n:Nat} (hn:l.most=some n) {P:Params} {h:Heap} {args:List WData} {vals:List Value}
  (hpre:l.row.toRowW.claim.pre args=true) (hwl:WellAll P h vals args) :
  ∃ a vs ns, vals = [Value.ref a] ∧ args = [WData.list (ns.map WData.int)] ∧ h.get? a = some { cls := .type "list", data := .seq vs.toArray } ∧ IntsAre vs ns ∧ ns.length ≤ n := by
 have hsh:WShape.hasAll [] args [.list .int]=true:=(pre_splitW hpre).1
 have hc:l.pre.holds [] { args:=args }=true:=(pre_splitW hpre).2
 obtain ⟨d,r,rfl,h1,h2⟩:=hasAllW_cons hsh
 obtain rfl:=hasAllW_nil h2
 obtain ⟨xs,rfl,h3⟩:=hasW_list h1
 obtain ⟨ns,rfl⟩:=items_int h3
 have hlen:ns.length≤n:=by
  unfold OpenLaw.pre at hc
  have h4:(WTm.not (.lt (.lit (.int (n:Int))) (.len (.arg 0)))).holds [] { args:=[.list (ns.map .int)] }=true:=by
   have h4:=(holds_andW hc).1
   rw [hn] at h4
   exact h4
  have h5:=condW_of h4 (w_not (w_lt w_lit (w_len_list (w_arg rfl))))
  rw [List.length_map] at h5
  refine Nat.le_of_not_lt fun q=>?_
  have q':(n:Int) < ((ns.length:Nat):Int):=by exact Int.ofNat_lt.mpr ‹_›
  first
   | (rw [decide_eq_true q'] at h5; exact absurd h5 (by decide))
   | (simp at h5; omega)
 cases hwl with
 | cons w1 w2 =>
  cases w2
  cases w1 with
  | list ho hall=>exact ⟨_,_,ns,rfl,rfl,ho,iw ns _ hall,hlen⟩
theorem post_true (l:OpenLaw) (args:List WData):l.row.toRowW.claim.post args (.bool true) args=true :=
 postW_of (r:=l.row.toRowW) (X:=(true == true))
  (show WShape.has [] (.bool true) .bool=true by first | rfl | decide | simp [WShape.has,WShape.arms,WShape.armsAll])
  (show (WTm.eq .res (.lit (.bool true))).value [] { args:=args,res:=some (.bool true),after:=args }=some (.bool (true == true)) from w_eq_bool (w_res rfl) w_lit) rfl
theorem attach_call {l:OpenLaw} {n:Nat} {q:Program} {loose:List Str} {XP:(Str→Option Value)→Heap→Prop} {YP:World→Heap→Prop} {d:DefRec}
  (hn:l.most=some n) (hdf:d.params.defaults=[])
  (call:∀ (w:World) (s₀ s₁:Shared) (mg mb:Str→Option Value) (fa:Addr) (o:Obj) (pm cd doc:Value) (a:Addr) (vs:List Value) (ns:List Int),
   Ground q loose [] XP w s₀ mg mb s₁.heap→YP w s₁.heap →
   s₁.heap.get? fa=some o→o.data=.func (docDef d.name d.params d.body d.scope pm cd doc)→s₁.heap.CodeRec cd d.name→mg d.name=some (.ref fa) →
   s₁.heap.get? a = some { cls := .type "list", data := .seq vs.toArray } → IntsAre vs ns → ns.length ≤ n → s₁.gens = #[] →
   codeAny (model l.prog w) callerA (.call (.ref fa) ⟨[.ref a],[]⟩) (fun r s'=>r=.ok (.ret (.bool true))∧OldK s₁.heap s'.heap∧s'.os=s₁.os∧AllBare s'.gens) s₁) :
  WalkO q loose XP YP l.row.toRowW d [] (fun f vs=>PySem.call f vs):=by
 intro w s₀ s₁ mg mb G Y fa o pm cd doc dV kV ho hd hcd hD hmg hg args vals as hpre hlay hrd hwl hlo
 obtain rfl:dV=.none:=Dflts.none hD hdf
 obtain rfl:kV=.none:=Dflts.noKw hD
 obtain ⟨a,vs,ns,rfl,rfl,hobj,hints,hlen⟩:=script_of hn hpre hwl
 refine enter_call (codeAny_mono (call w s₀ s₁ mg mb fa o pm cd doc a vs ns G Y ho (fd_plain hd) hcd hmg hobj hints hlen hg) fun r s' hq=>?_)
 obtain ⟨rfl,h2,h3,h4⟩:=hq
 exact ⟨.inl ⟨.bool true,.bool true,[],rfl,fun _=>rfl,.bool true,post_true l _,fun _=>⟨List.Pairwise.nil,fun _ hm=>(nomatch hm)⟩⟩,h2,h3,h4⟩
section
variable {prog:Program} {w:World} {A:Around} {E:Value→Shared→Prop} {s:Shared} {K:Frag}
end
end Att
namespace L2
open PySem PySem.Spec PyProof.Rows
theorem vals_ints:∀ {vs:List Value} {ns:List Int},IntsAre vs ns→Vals (ns.map V.int) vs:=by
 intro vs ns h
 induction h with
 | nil=>exact .nil
 | cons n t h ih=>exact .cons ⟨t,rfl⟩ ih
noncomputable def Only (H:Hp):Prop:=∀ b,H b=none∨∃ o xs,H b=some (.frz o (.lst xs))
theorem law_call {P:Program} {w:World} {K:PySem.W.Frag} {mg mb:Str→Option Value} {CX:CXT} {k:Nat} {fa a:Addr} {fd:FuncData} {x:Str} {sp:Sp} {s₁:Shared} {vs:List Value} {ns:List Int}
  (KX : K.In s₁.heap) (hns : s₁.heap.Ns mainGlobals mg) (hb : s₁.heap.Ns builtinsNs mb) (hbb : ∀ x : Str, x ≠ "__name__" → mb x = bootBuiltins x) (hlim : s₁.heap.NoLimit) (hg : s₁.gens = #[])
  (ha : s₁.heap.get? a = some { cls := .type "list", data := .seq vs.toArray }) (hi : IntsAre vs ns) (hl : ns.length ≤ sizeLine) (hr : Room k callerA)
  (F:∀ base:Heap,K.In base→base.Ns mainGlobals mg→FnOk P w K mg base CX k fa fd [x] sp) (hbind:∀ (s:Shared) (u:Value),BindsTo s fd ⟨[u],[]⟩ [(x,u)])
  (hsp:∀ H:Hp,Only H→SqL K H a (ns.map V.int)→sp [.ref a] H (fun v _=>v=.bl true) fun _ _ _=>False)
  (hCX:∀ H e s',CX [] H s₁ (fun _ _ _=>False) e s'→False) :
  codeAny (model P w) callerA (.call (.ref fa) ⟨[.ref a],[]⟩) (fun r s'=>r=.ok (.ret (.bool true))∧OldK s₁.heap s'.heap∧s'.os=s₁.os∧AllBare s'.gens) s₁:=by
 have rv:=vals_ints hi
 have lenV:=hi.length
 have core:∀ H:Hp,Only H→SqL K H a (ns.map V.int)→HOk P w H s₁.heap→(∀ b,H b≠none→b=a)→(H a≠none→K.lookup a=none) →
   codeAny (model P w) callerA (.call (.ref fa) ⟨[.ref a],[]⟩) (fun r s'=>r=.ok (.ret (.bool true))∧OldK s₁.heap s'.heap∧s'.os=s₁.os∧AllBare s'.gens) s₁:=by
  intro H hO hS hok hA hK
  have base_of:∀ {b:Addr} {o:Obj},s₁.heap.get? b=some o→H b=none→(hidT s₁.heap H).get? b=some o:=fun e n=>hidT_get e n
  have noA:∀ {b:Addr} {o:Obj} {es:Array DictEntry} {ep:Nat},s₁.heap.get? b=some o→o.data=.dict es ep→H b=none:=fun {b o es ep} e d=>by
   cases q:H b with
   | none=>rfl
   | some u =>
    have e':b=a:=hA b (by rw [q]; simp)
    subst e'
    rw [ha] at e; (injection e with e; subst e)
    have d':Data.seq vs.toArray _=Data.dict es ep:=d
    injection d'
  have nsK:∀ {b:Addr} {m:Str→Option Value},s₁.heap.Ns b m→(hidT s₁.heap H).Ns b m:=fun {b m} ⟨o,es,ep,e,d,r⟩=>⟨o,es,ep,base_of e (noA e d),d,r⟩
  have hKb:K.In (hidT s₁.heap H):=fun b o e=>base_of (KX b o e) (by
   cases q:H b with
   | none=>rfl
   | some u =>
    have e':b=a:=hA b (by rw [q]; simp)
    subst e'
    rw [hK (by rw [q]; simp)] at e; injection e)
  have hM:Mod K mg (hidT s₁.heap H):=⟨hKb,nsK hns,⟨mb,nsK hb,hbb⟩,let ⟨mc,h1,h2⟩:=hlim; ⟨mc,nsK h1,h2⟩⟩
  have e0:Env0 P w K mg (hidT s₁.heap H) callerA [] s₁ H:=⟨rfl,hM,fun b o e=>of_hidT e,Nat.le_of_eq (hidT_size _ _),trivial,fun b hb=>absurd (show b∈([]:List Addr) from hb) (by simp),hok,.of_eq hg⟩
  refine codeAny_mono ((F _ hKb (nsK hns)).run callerA [] s₁ H ⟨[.ref a],[]⟩ [.ref a] [.ref a] _ _ hr e0 (hbind s₁ (.ref a)) (.cons rfl .nil) (hsp H hO hS)) fun r s' h=>?_
  cases r with
  | error e=>exact (hCX H e s' h).elim
  | ok fl =>
   cases fl with
   | next=>exact False.elim h
   | brk=>exact False.elim h
   | cont=>exact False.elim h
   | ret u =>
    obtain ⟨v,H',os,bare,un,hok',r',q⟩:=h
    have q':v=.bl true:=q
    subst q'
    obtain rfl:u=Value.bool true:=r'
    refine ⟨rfl,OldK.of_keep fun b o e=>?_,os,bare⟩
    cases q:H b with
    | none=>exact un.keep b o e q (by intro z; exact absurd (show b∈([]:List Addr) from z) (by simp)) (by simp)
    | some u =>
     rcases hO b with z | ⟨ob,xs,z⟩
     ·rw [q] at z; injection z
     ·have z2:=un.frzs b ob _ z
      obtain ⟨e1,_⟩:=hok b _ z
      obtain ⟨e2,_⟩:=hok' b _ z2
      rw [e] at e1; (injection e1 with e1; subst e1)
      exact e2
 cases hk:K.lookup a with
 | some o =>
  have e:=KX a o hk
  rw [ha] at e
  (injection e with e; subst e)
  refine core (fun _=>none) (fun _=>.inl rfl) (.inr ⟨_,vs.toArray,_,hk,rfl,rfl,rfl,by rw [List.size_toArray,lenV]; exact hl,by simpa using rv⟩) (fun b u z=>by have z':(none:Option HO)=some u:=z; injection z') (fun b z=>absurd rfl z) fun z=>absurd rfl z
 | none =>
  refine core (fun b => if b = a then some (.frz { cls := .type "list", data := .seq vs.toArray } (.lst (ns.map V.int))) else none) (fun b => ?_) (.inl (.inr ⟨{ cls := .type "list", data := .seq vs.toArray }, if_pos rfl⟩)) (fun b u z => ?_) (fun b z => ?_) fun _ => hk
  ·by_cases hb:b=a
   ·exact .inr ⟨_,_,if_pos hb⟩
   ·exact .inl (if_neg hb)
  ·by_cases hb:b=a
   ·have z':=(if_pos hb).symm.trans z
    (injection z' with z'; subst z')
    subst hb
    exact ⟨ha,by rw [List.length_map]; exact hl,vs,_,rv,ha⟩
   ·have z':=(if_neg hb).symm.trans z
    injection z'
  ·by_cases hb:b=a
   ·exact hb
   ·exact absurd (if_neg hb) z
end L2
namespace L2
open PySem PySem.Spec PyProof.Rows
theorem walk_of {l:PySem.W.OpenLaw} {n k:Nat} {q:Program} {loose:List Str} {XP:(Str→Option Value)→Heap→Prop} {YP:World→Heap→Prop} {d:DefRec} {K:Params→PySem.W.Frag} {CX:World→CXT} {sp:World→Sp} {x:Str}
  (hn:l.most=some n) (hn2:n≤sizeLine) (hdf:d.params.defaults=[]) (hr:Room k callerA)
  (hY:∀ (w:World) (h:Heap),YP w h→(K w.params).In h)
  (F:∀ (w:World) (mg:Str→Option Value) (fa:Addr) (h:Heap),(K w.params).In h→h.Ns mainGlobals mg→mg d.name=some (.ref fa) →
   ∃ fd:FuncData,(∀ (s:Shared) (u:Value),BindsTo s fd ⟨[u],[]⟩ [(x,u)]) ∧
    ∀ base:Heap,(K w.params).In base→base.Ns mainGlobals mg→FnOk l.prog w (K w.params) mg base (CX w) k fa fd [x] (sp w))
  (hsp:∀ (w:World) (H:Hp) (a:Addr) (ns:List Int),ns.length≤n→Only H→SqL (K w.params) H a (ns.map V.int)→sp w [.ref a] H (fun v _=>v=.bl true) fun _ _ _=>False)
  (hCX:∀ (w:World) (H:Hp) (s:Shared) (e:Value) (s':Shared),CX w [] H s (fun _ _ _=>False) e s'→False) :
  PySem.W.WalkO q loose XP YP l.row.toRowW d [] (fun f vs=>PySem.call f vs):=by
 refine Att.attach_call hn hdf fun w s₀ s₁ mg mb fa o pm cd doc a vs ns G Y ho hd hcd hmg hobj hints hlen hg=>?_
 have KX:=hY w _ Y
 obtain ⟨fd,hb,hF⟩:=F w mg fa _ KX G.T.g hmg
 exact law_call KX G.T.g G.T.b G.T.builtins G.T.nolimit hg hobj hints (Nat.le_trans hlen hn2) hr hF hb (fun H hO hS=>hsp w H a ns hlen hO hS) fun H e s'=>hCX w H s₁ e s'
end L2
namespace L2
open PySem PySem.Spec PyProof.Rows
noncomputable def fB (s:Stmt) (j:Nat):Stmt:=match s with
 | .ClassDef _ _ _ body _ _ _ _ _ _ _=>body.getD j (.Pass ⟨0,0,0,0⟩)
 | _=>.Pass ⟨0,0,0,0⟩
noncomputable def am (s:Stmt):Arguments:=match s with
 | .FunctionDef _ a _ _ _ _ _ _ _ _=>a
 | _=>{ posonlyargs:=[],args:=[],vararg:=none,kwonlyargs:=[],kw_defaults:=[],kwarg:=none,defaults:=[] }
noncomputable def af (s:Stmt):List Stmt:=match s with
 | .FunctionDef _ _ b _ _ _ _ _ _ _=>b
 | _=>[]
noncomputable def ab (s:Stmt):Scope:=match s with
 | .FunctionDef _ _ _ _ _ _ sc _ _ _=>sc
 | _=>{ kind:=.function,names:=[],isGenerator:=false,isCoroutine:=false }
noncomputable abbrev CX0:CXT:=fun _ _ _ _ _ _=>False
noncomputable abbrev E0:XK:=fun _ _ _=>False
theorem pass0 {X:Cx}:iP CX0 X E0:=fun _ _ _ _ _ _ _ h=>h.elim
structure Fun (K:PySem.W.Frag) (x qual:Str) (st:Stmt) (f:Addr) (fd:FuncData):Prop where
 ex:∃ (oc:Value) (od:Option Addr) (kV doc pm:Value) (an:Option Addr) (cdv ct:Value) (osl:Array (Option Value)),
  fd=PySem.W.fnOf x qual (am st) (af st) (ab st) .none kV doc pm an cdv ct∧K.lookup f=some ⟨oc,od,.func fd,osl⟩∧PySem.W.codeIn K cdv qual=true
 kp:PySem.W.keepIn K (.ref f)=true
section
variable {P:Program} {w:World} {K:PySem.W.Frag} {mg:Str→Option Value} {base:Heap}
theorem Fun.ok {x qual:Str} {st:Stmt} {f:Addr} {fd:FuncData} {N ps:List Str} {k:Nat} {sp:Sp} (F:Fun K x qual st f fd) (S:aJ N ps (ab st)) (len:∀ vs H Q E,sp vs H Q E→vs.length=ps.length)
  (hbody:∀ (cdv:Value) (A:Around) (outer:List Env) (s:Shared) (H:Hp) (vs:List V) (Q:VK) (E:XK),Room k (A.deeper (envOfC qual (ab st) s.heap.objs.size f cdv))→sp vs H Q E →
   ∃ t,PSs (cxOf CX0 P w K mg base N qual (ab st) f cdv A outer s H E).nox (af st) t∧t { nx:=fun _ H'=>Q .non H',rt:=Q } (dJ N vs) H):FnOk P w K mg base CX0 (k+1) f fd ps sp:=by
 obtain ⟨oc,od,kV,doc,pm,an,cdv,ct,osl,rfl,lk,hcd⟩:=F.ex
 refine fn_of lk hcd S len fun A outer s H vs Q E hr hsp=>?_
 obtain ⟨t,h,q⟩:=hbody cdv A outer s H vs Q E hr hsp
 exact ⟨t,h.nox,q⟩
theorem Fun.binds {x qual:Str} {st:Stmt} {f:Addr} {fd:FuncData} {ps:List Str} (F:Fun K x qual st f fd)
  (h:∀ (kV doc pm:Value) (an:Option Addr) (cdv ct:Value) (us:List Value),us.length=ps.length→bindArgs (PySem.W.fnOf x qual (am st) (af st) (ab st) .none kV doc pm an cdv ct) ⟨us,[]⟩=pure (ps.zip us)):eN K fd ps []:=by
 obtain ⟨oc,od,kV,doc,pm,an,cdv,ct,osl,rfl,lk,hcd⟩:=F.ex
 exact .all (h kV doc pm an cdv ct)
theorem bL {x qual:Str} {st:Stmt} {f:Addr} {oc:Value} {od an:Option Addr} {osl:Array (Option Value)} {kV doc pm cdv ct:Value} (l:K.lookup f=some ⟨oc,od,.func (PySem.W.fnOf x qual (am st) (af st) (ab st) .none kV doc pm an cdv ct),osl⟩)
  (c:PySem.W.codeIn K cdv qual=true) (k:PySem.W.keepIn K (.ref f)=true):Fun K x qual st f (PySem.W.fnOf x qual (am st) (af st) (ab st) .none kV doc pm an cdv ct):=⟨⟨oc,od,kV,doc,pm,an,cdv,ct,osl,rfl,l,c⟩,k⟩
end
section
variable {X:Cx}
end
theorem iteF {A B:Prop} (h:B):if false=true then A else B:=by
 rw [if_neg Bool.false_ne_true]
 exact h
theorem iteT {A B:Prop} (h:A):if true=true then A else B:=by
 rw [if_pos rfl]
 exact h
noncomputable def Same (H H':Hp):Prop:=∀ b o,H b=some o→H' b=some o
theorem Same.refl (H:Hp):Same H H:=fun _ _ h=>h
theorem Same.trans {H H1 H2:Hp} (a:Same H H1) (b:Same H1 H2):Same H H2:=fun c o h=>b c o (a c o h)
theorem Same.free {H H':Hp} (e:Same H H') {l:Addr} (h:H' l=Option.none):H l=Option.none:=by
 cases q:H l with
 | none=>rfl
 | some o =>
  rw [e l o q] at h
  injection h
section
variable {κ:Type} [DecidableEq κ]
end
end L2
namespace PySem
noncomputable def capt (cells:List (Str × Addr)):List (Str × NameKind)→List (Str × Addr)→List (Str × Addr)
 | [],acc=>acc
 | (n,k)::r,acc=>capt cells r (if k=NameKind.free then (match cells.lookup n with | some c=>(n,c)::acc | none=>acc) else acc)
theorem capt_go (env:Env):∀ (l:List (Str × NameKind)) (acc:List (Str × Addr)),(∀ x∈l,x.2=NameKind.free→∃ c,env.cells.lookup x.1=some c) →
  (forIn l acc (fun x cs=>match x with
    | (name,kind) =>
     if (kind == NameKind.free)=true then do
      let c ← cellOf env name
      pure (ForInStep.yield ((name,c)::cs))
     else pure (ForInStep.yield cs)):Sem (List (Str × Addr)))=pure (capt env.cells l acc)
 | [],acc,_=>rfl
 | (n,k)::r,acc,h=>by
  rw [List.forIn_cons]
  by_cases hk:k=NameKind.free
  ·subst hk
   obtain ⟨c,hc⟩:=h (n,NameKind.free) List.mem_cons_self rfl
   have hc':env.cells.lookup n=some c:=hc
   show ((if (NameKind.free == NameKind.free)=true then _ else _) >>= _)=_
   rw [if_pos (show (NameKind.free == NameKind.free)=true from rfl)]
   rw [show cellOf env n=pure c by unfold cellOf; rw [hc']]
   show (forIn r ((n,c)::acc) _:Sem _)=_
   rw [capt_go env r ((n,c)::acc) (fun x hx=>h x (List.mem_cons_of_mem _ hx))]
   show _=pure (capt env.cells r (if NameKind.free=NameKind.free then (match env.cells.lookup n with | some c=>(n,c)::acc | none=>acc) else acc))
   rw [if_pos rfl,hc']
  ·have hb:(k == NameKind.free)=false:=by simpa using hk
   show ((if (k == NameKind.free)=true then _ else _) >>= _)=_
   rw [hb,if_neg Bool.false_ne_true]
   show (forIn r acc _:Sem _)=_
   rw [capt_go env r acc (fun x hx=>h x (List.mem_cons_of_mem _ hx))]
   show _=pure (capt env.cells r (if k=NameKind.free then (match env.cells.lookup n with | some c=>(n,c)::acc | none=>acc) else acc))
   rw [if_neg hk]
theorem closure_capt {sc:Scope} {env:Env} (h:∀ x∈sc.names,x.2=NameKind.free→∃ c,env.cells.lookup x.1=some c):closureFor sc env=pure (capt env.cells sc.names []):=by
 show (forIn sc.names ([]:List (Str × Addr)) _ >>= fun cs=>pure cs)=_
 rw [capt_go env sc.names [] h]
 rfl
theorem capt_look {cells:List (Str × Addr)}:∀ {l:List (Str × NameKind)} {acc:List (Str × Addr)} {x:Str} {c:Addr},(capt cells l acc).lookup x=some c→acc.lookup x=some c∨(cells.lookup x=some c∧(x,NameKind.free)∈l)
 | [],_,_,_,h=>.inl h
 | (n,k)::r,acc,x,c,h=>by
  rcases capt_look (l:=r) h with h1 | ⟨h1,h2⟩
  ·by_cases hk:k=NameKind.free
   ·subst hk
    rw [if_pos rfl] at h1
    cases e:cells.lookup n with
    | none=>rw [e] at h1; exact .inl h1
    | some d =>
     rw [e] at h1
     have h1:List.lookup x ((n,d)::acc)=some c:=h1
     rw [List.lookup_cons] at h1
     cases hx:x == n with
     | true =>
      rw [hx] at h1
      have h1:some d=some c:=h1
      have hx':x=n:=by simpa using hx
      rw [hx',← h1]
      exact .inr ⟨e,List.mem_cons_self⟩
     | false=>rw [hx] at h1; exact .inl h1
   ·rw [if_neg hk] at h1; exact .inl h1
  ·exact .inr ⟨h1,List.mem_cons_of_mem _ h2⟩
set_option tactic.hygienic true in
theorem capt_keep {cells:List (Str × Addr)}:∀ {l:List (Str × NameKind)} {acc:List (Str × Addr)} {x:Str},(acc.lookup x).isSome=true→((capt cells l acc).lookup x).isSome=true
 | [],_,_,h=>h
 | (n,k)::r,acc,x,h=>by
  refine capt_keep (l:=r) ?_
  split
  ·split
   ·rename_i d _
    show (List.lookup x ((n,d)::acc)).isSome=true
    rw [List.lookup_cons]
    cases x == n
    ·exact h
    ·rfl
   ·exact h
  ·exact h
theorem j9 {cells:List (Str × Addr)}:∀ {l:List (Str × NameKind)} {acc:List (Str × Addr)} {x:Str} {c:Addr},(x,NameKind.free)∈l→cells.lookup x=some c→((capt cells l acc).lookup x).isSome=true
 | (n,k)::r,acc,x,c,hm,hc=>by
  rcases List.mem_cons.mp hm with e | hm
  ·obtain ⟨e1,e2⟩:=Prod.mk.inj e
   subst e1; subst e2
   refine capt_keep (l:=r) ?_
   rw [if_pos rfl,hc]
   simp
  ·exact j9 (l:=r) hm hc
variable {prog:Program} {w:World} {A:Around} {R:Result→Shared→Prop} {s:Shared}
theorem compLoop_any {elt target iter:Expr} {ifs:List Expr} {scope:Scope} {pos:Pos} {it acc:Value} {env:Env} (I:Nat→Shared→Prop) (E':Value→Shared→Prop) (hE:E'=notedBy (model prog w) A env fun e s'=>R (.error e) s')
  (turn:∀ n s,I n s→wpAny (model prog w) A (pyNext it) (fun r s₁=>match r with
   | none=>R (.ok .next) s₁
   | some v=>wpAny (model prog w) A (letOwnedTupleGo target it v) (fun _ s₀=>wpAny (model prog w) A (assign target env v) (fun _ s₂ =>
     wpAny (model prog w) A (forIn ifs true fun c r=>if r=true then do let ok ← isTrue c env (eval c env); pure (ForInStep.yield ok) else pure (ForInStep.yield r)) (fun ok s₃ =>
      if ok = true then wpAny (model prog w) A (eval elt env) (fun x s₄ => wpAny (model prog w) A (call (.builtin "list.append") [acc, x]) (fun _ s₅ => ∃ m, m < n ∧ I m s₅) E' s₄) E' s₃
      else ∃ m,m < n∧I m s₃) E' s₂) E' s₀) E' s₁) E' s)
  (n:Nat) (h:I n s) :
  codeAny (model prog w) A (.compLoop (.ListComp elt [⟨target,iter,ifs,0⟩] scope pos) 0 it acc env) R s:=by
 subst hE
 refine codeAny_loop rfl I (fun n s hI=>?_) n h
 refine wpAny_noted (m:=compTurn (.ListComp elt [⟨target,iter,ifs,0⟩] scope pos) 0 it acc env) ?_
 rw [compTurn_list]
 refine wpAny_bind (wpAny_standAt (wpAny_bind (wpAny_mono (turn n s hI) (fun r s₁ h₁=>?_) fun _ _ z=>z)))
 cases r with
 | none=>exact wpAny_pure h₁
 | some v =>
  refine wpAny_bind (wpAny_mono h₁ (fun _ s₀ h₀=>?_) fun _ _ z=>z)
  refine wpAny_bind (wpAny_mono h₀ (fun _ s₂ h₂=>?_) fun _ _ z=>z)
  refine wpAny_bind (wpAny_mono h₂ (fun ok s₃ h₃=>?_) fun _ _ z=>z)
  cases ok with
  | false=>exact wpAny_pure ⟨rfl,h₃⟩
  | true =>
   refine wpAny_bind (wpAny_bind (wpAny_mono h₃ (fun x s₄ h₄=>?_) fun _ _ z=>z))
   exact wpAny_bind (wpAny_mono h₄ (fun _ s₅ h₅=>wpAny_pure (wpAny_pure ⟨rfl,h₅⟩)) fun _ _ z=>z)
end PySem
namespace L2
open PySem PySem.Spec PyProof.Rows
theorem zw {G:Prop} (h:∀ P:Prop,(G→P)→P):G:=h G id
noncomputable def cxC (X:Cx) (sc:Scope) (C:Addr) (fp:List Addr) (pins:List (Addr × Obj)) (s:Shared) (H:Hp):Cx where
 prog:=X.prog
 w:=X.w
 K:=X.K
 mg:=X.mg
 base:=X.base
 A:=X.A
 N:=X.N
 s₀:=s
 H₀:=H
 env:=compEnvC sc (capt X.env.cells sc.names []) C X.env
 outer:=X.stack
 stack:=X.stack
 ex:=fp
 fn:=fun x=>decide (sc.names.lookup x=some NameKind.local)
 calm:=X.calm
 pn:=X.pn++pins
 xe:=fun _ _=>False
structure eM (X:Cx) (sc:Scope):Prop where
 kind:sc.kind=.function
 nocell:∀ y∈sc.names,y.2≠NameKind.cell
 names:∀ y∈sc.names,y.2=NameKind.local→sc.names.lookup y.1=some NameKind.local
 free:∀ y∈sc.names,y.2=NameKind.free→sc.names.lookup y.1=some NameKind.free∧(X.env.kindOf y.1=some .cell∨X.env.kindOf y.1=some .free)
theorem gm {env:Env}:∀ {l:List (Str × NameKind)} {x:Str},
  (l.map fun (n,k)=>if (k == NameKind.free && env.scope.kind == .function && env.kindOf n == some .cell) then (n,NameKind.cell) else (n,k)).lookup x =
   (l.lookup x).map fun k=>if (k == NameKind.free && env.scope.kind == .function && env.kindOf x == some .cell) then NameKind.cell else k
 | [],_=>rfl
 | (n,k)::r,x=>by
  show List.lookup x ((if (k == NameKind.free && env.scope.kind == .function && env.kindOf n == some .cell)=true then (n,NameKind.cell) else (n,k))::_)=_
  cases hx:x == n with
  | true =>
   have e:x=n:=by simpa using hx
   subst e
   split <;> rename_i hc
   ·rw [List.lookup_cons,List.lookup_cons]
    simp only [beq_self_eq_true,Option.map_some]
    rw [if_pos hc]
   ·rw [List.lookup_cons,List.lookup_cons]
    simp only [beq_self_eq_true,Option.map_some]
    rw [if_neg hc]
  | false =>
   have ih:=@gm env r x
   split
   ·rw [List.lookup_cons,hx,List.lookup_cons,hx]; exact ih
   ·rw [List.lookup_cons,hx,List.lookup_cons,hx]; exact ih
section
variable {X:Cx} {sc:Scope} {C:Addr} {fp:List Addr} {pins:List (Addr × Obj)} {σ:St} {H:Hp} {s:Shared}
theorem iK (x:Str):(cxC X sc C fp pins s H).env.kindOf x=(sc.names.lookup x).map fun k=>if (k == NameKind.free && X.env.scope.kind == .function && X.env.kindOf x == some .cell) then NameKind.cell else k:=gm
theorem comp_free {x:Str} (h:sc.names.lookup x=some NameKind.free):(cxC X sc C fp pins s H).env.kindOf x=some .cell∨(cxC X sc C fp pins s H).env.kindOf x=some .free:=by
 have e:=iK (X:=X) (sc:=sc) (C:=C) (fp:=fp) (pins:=pins) (s:=s) (H:=H) x
 rw [h] at e
 rw [e]
 simp only [Option.map_some]
 by_cases hc:(NameKind.free == NameKind.free && X.env.scope.kind == .function && X.env.kindOf x == some .cell)=true
 ·rw [if_pos hc]; exact .inl rfl
 ·rw [if_neg hc]; exact .inr rfl
theorem cx {α β:Type} [BEq α] [LawfulBEq α]:∀ {l:List (α × β)} {x:α} {k:β},l.lookup x=some k→(x,k)∈l:=by
 intro x_0
 induction x_0 with
 | nil =>
  intro _ _ h
  simp at h
 | cons p_0 r ih_ =>
  obtain ⟨n,k'⟩:=p_0
  intro x k h
  rw [List.lookup_cons] at h
  cases hx:x == n with
  | true =>
   rw [hx] at h
   have h:some k'=some k:=h
   have e:x=n:=by simpa using hx
   (injection h with h; subst h)
   subst e
   exact List.mem_cons_self
  | false=>rw [hx] at h; exact List.mem_cons_of_mem _ (ih_ h)
theorem comp_vis {x:Str} (h:Vis (cxC X sc C fp pins s H).env.scope x) (S:eM X sc):sc.names.lookup x=some NameKind.local∨sc.names.lookup x=some NameKind.free:=by
 have e:=iK (X:=X) (sc:=sc) (C:=C) (fp:=fp) (pins:=pins) (s:=s) (H:=H) x
 have h':(cxC X sc C fp pins s H).env.kindOf x=some .local∨(cxC X sc C fp pins s H).env.kindOf x=some .cell∨(cxC X sc C fp pins s H).env.kindOf x=some .free:=h
 rw [e] at h'
 cases q:sc.names.lookup x with
 | none=>rw [q] at h'; simp at h'
 | some k =>
  rw [q] at h'
  cases k with
  | «local» => exact .inl rfl
  | free=>exact .inr rfl
  | cell=>exact absurd rfl (S.nocell (x,.cell) (cx q))
  | globalExplicit=>simp at h'
  | globalImplicit=>simp at h'
noncomputable def dY (ow:List Nat) (σ:St):St:=ow.foldl (fun t i=>t.set i none) σ
theorem e8:∀ (ow:List Nat) (σ:St),(dY ow σ).length=σ.length:=by
 intro x_0
 induction x_0 with
 | nil =>
  intro _
  exact rfl
 | cons i r ih_ =>
  intro σ
  show (dY r (σ.set i none)).length=_
  rw [ih_]
  simp
theorem jm:∀ {ow:List Nat} {σ:St} {j:Nat} {v:V},(dY ow σ)[j]?=some (some v)→σ[j]?=some (some v)∧j∉ow:=by
 intro x_0
 induction x_0 with
 | nil =>
  intro _ _ _ h
  exact ⟨h,by simp⟩
 | cons i r ih_ =>
  intro σ j v h
  obtain ⟨h1,h2⟩:=ih_ h
  by_cases e:i=j
  ·subst e
   rw [List.getElem?_set] at h1
   split at h1
   ·split at h1 <;> simp at h1
   ·exact absurd rfl ‹_›
  ·rw [List.getElem?_set_ne e] at h1
   exact ⟨h1,by simp [h2,Ne.symm e]⟩
theorem inv_comp {σ':St} {m:Str→Option Value} {h':Heap} {tk:Nat} (I:Inv X pins σ H s) (S:eM X sc) (hC:s.heap.objs.size≤C) (hf:∀ b∈fp,FpOk X pins H b) (hx:∀ b∈fp,b < s.heap.objs.size)
  (k:∀ b u,s.heap.get? b=some u→h'.get? b=some u) (hn:h'.Ns C m) (hl:σ'.length=σ.length) (hw:∀ (i:Nat) (v:V),σ'[i]?=some (some v)→σ[i]?=some (some v))
  (ho:∀ (i:Nat) (x:Str) (v:V),X.N[i]?=some x→sc.names.lookup x=some NameKind.local→σ'[i]?≠some (some v)) :
  Inv (cxC X sc C fp pins s H) [] σ' H { s with heap:=h',toks:=tk }:=by
 have cl:∀ {x:Str} {c:Addr},(cxC X sc C fp pins s H).env.cells.lookup x=some c→X.env.cells.lookup x=some c∧sc.names.lookup x=some NameKind.free:=fun {x c} e=>by
  have e:(capt X.env.cells sc.names []).lookup x=some c:=e
  rcases capt_look e with z | ⟨z1,z2⟩
  ·simp at z
  ·exact ⟨z1,(S.free _ z2 rfl).1⟩
 have cold:∀ {x:Str} {c:Addr},X.env.cells.lookup x=some c→c < s.heap.objs.size:=fun {x c} e=>let ⟨_,q⟩:=I.cell x c e; q.lt
 refine ⟨⟨I.ok.mod,S.kind,I.ok.glob,I.ok.blt,hC,fun x y c e1 e2=>I.ok.inj x y c (cl e1).1 (cl e2).1,fun x hx=>?_,fun x c hx e=>?_,I.ok.hd,I.ok.frames,.inl rfl,fun b hb=>?_,I.bs,Nat.le_trans I.ok.bsz I.sz,fun b o e hb=>?_,fun b hb z=>?_,I.stack,I.stkFree⟩,
  rfl,I.bare,Un.kept k,⟨m,hn,fun i x v e1 e2 e3=>?_⟩,fun x c e=>?_, ?_,fun x c e=>I.freeC x c (cl e).1,fun p hp=>?_,I.hok.kept k,hl.trans I.len⟩
 ·have hx':sc.names.lookup x=some NameKind.free:=by
   have e:=iK (X:=X) (sc:=sc) (C:=C) (fp:=fp) (pins:=pins) (s:=s) (H:=H) x
   rw [e] at hx
   cases q:sc.names.lookup x with
   | none=>rw [q] at hx; simp at hx
   | some k =>
    rw [q] at hx
    cases k with
    | free=>rfl
    | «local» => simp at hx
    | cell=>exact absurd rfl (S.nocell (x,.cell) (cx q))
    | globalExplicit=>simp at hx
    | globalImplicit=>simp at hx
  obtain ⟨c,hc⟩:=I.ok.has x (S.free _ (cx hx') rfl).2
  exact Option.isSome_iff_exists.mp (j9 (acc:=[]) (cx hx') hc)
 ·have hx':sc.names.lookup x=some NameKind.local:=of_decide_eq_true hx
  rw [(cl e).2] at hx'
  (injection hx' with hx'; injection hx')
 ·refine zz fun P_ k_=>?_
  obtain ⟨f0,f1,f2,f3,f4,f5⟩:=hf b hb
  refine k_ ?_
  exact ⟨Nat.ne_of_lt (Nat.lt_of_lt_of_le (hx b hb) hC),fun x c e=>f4 x c (cl e).1⟩
 ·refine zz fun P_ k_=>?_
  obtain ⟨f0,f1,f2,f3,f4,f5⟩:=hf b hb
  refine k_ ?_
  rcases f3 with z | z
  ·exact I.ok.noex b o e z
  ·exact absurd (Nat.lt_of_lt_of_le (Heap.lt_size e) (Nat.le_trans I.ok.bsz z)) (Nat.lt_irrefl _)
 ·refine zz fun P_ k_=>?_
  obtain ⟨f0,f1,f2,f3,f4,f5⟩:=hf b hb
  refine k_ ?_
  rcases List.mem_cons.mp (I.stkSub b z) with e | e
  ·exact f1 e
  ·exact f2 e
 ·rcases comp_vis e3 S with z | z
  ·exact absurd e2 (ho i x v e1 z)
  ·refine zz fun P_ k_=>?_
   obtain ⟨m0,hn0,hl0⟩:=I.loc
   have zo:=(S.free _ (cx z) rfl).2
   have vis:Vis X.env.scope x:=by rcases zo with q | q; exact .inr (.inl q); exact .inr (.inr q)
   obtain ⟨u,r,l⟩:=hl0 i x v e1 (hw i v e2) vis
   refine k_ ?_
   refine ⟨u,r,.inr ⟨comp_free z, ?_⟩⟩
   rcases l with ⟨q,_⟩ | ⟨_,c,hc,⟨oc,hoc,hd⟩⟩
   ·rcases zo with q' | q' <;> rw [q] at q' <;> (injection q' with q'; injection q')
   ·obtain ⟨c',hc'⟩:=Option.isSome_iff_exists.mp (j9 (acc:=[]) (cx z) hc)
    have e:=(cl hc').1
    rw [hc] at e
    (injection e with e; subst e)
    exact ⟨c,hc',⟨oc,k _ _ hoc,hd⟩⟩
 ·refine zz fun P_ k_=>?_
  obtain ⟨v,oc,hoc,hd⟩:=I.cell x c (cl e).1
  refine k_ ?_
  exact ⟨v,oc,k _ _ hoc,hd⟩
 ·exact I.hok.fresh hC
 ·have hp':p∈X.pn++pins:=by simpa [cxC] using hp
  refine zz fun P_ k_=>?_
  obtain ⟨e,n,ne,nf,d⟩:=I.pin p hp'
  refine k_ ?_
  refine ⟨k _ _ e,n, ?_,fun z=>?_,d⟩
  ·show p.1≠C
   exact Nat.ne_of_lt (Nat.lt_of_lt_of_le (Heap.lt_size e) hC)
  ·rcases List.mem_cons.mp (I.stkSub p.1 z) with q | q
   ·exact ne q
   ·exact nf q
noncomputable def InC (X:Cx) (sc:Scope) (X':Cx):Prop:=∃ C fp pins s H,X'=cxC X sc C fp pins s H
noncomputable def tComp (wi:TI) (g:TG) (tc:TT) (te:TE) (ow:List Nat):TE:=fun σ H Q=>wi σ H fun J H1=>∀ a,H1 a=none →
 ∃ W:Nat→Nat→List V→St→Hp→Prop,(∃ m,W 0 m [] (dY ow σ) (upd H1 a (.lst [])))∧∀ i m ys σ2 H2,W i m ys σ2 H2 →
  H2 a=some (.lst ys)∧((J.stop i H2∧Q (.ref a) H2)∨(J.go i H2∧∀ x H3,J.yld i H2 x H3→g x σ2 H3 fun σ4 H4=>tc σ4 H4 fun b H5 =>
   if b=true then te σ4 H5 fun y H6=>H6 a=some (.lst ys)∧ys.length < sizeLine∧∃ m',m' < m∧W (i+1) m' (ys++[y]) σ4 (upd H6 a (.lst (ys++[y])))
   else ∃ m',m' < m∧W (i+1) m' ys σ4 H5))
noncomputable def tAll:TT:=fun _ H Q=>Q true H
noncomputable def PIfs (X:Cx) (sc:Scope) (ifs:List Expr) (tc:TT):Prop:=(ifs=[]∧tc=tAll)∨∃ c,ifs=[c]∧∀ X',InC X sc X'→PT X' c tc
inductive CI (X:Cx) (tn:Nat→Heap→Prop) (fp:List Addr) (W:Nat→Nat→List V→St→Hp→Prop) (n:Nat) (s:Shared):Prop
 | mk (i:Nat) (ys:List V) (σ:St) (H:Hp) (I:Inv X [] σ H s) (st:tn i s.heap) (fr:∀ b∈fp,H b=none) (w:W i n ys σ H)
theorem jo {tg iter elt:Expr} {ifs:List Expr} {pos:Pos} {g:TG} {tc:TT} {te:TE} {ow:List Nat} {it:Addr} {tn:Nat→Heap→Prop} {J:It} (I:Inv X pins σ H s) (hc:X.calm=true) (S:eM X sc)
  (how:∀ (i:Nat) (x:Str),X.N[i]?=some x→sc.names.lookup x=some NameKind.local→i∈ow) (hg:∀ X',InC X sc X'→PG X' tg g) (ht:PIfs X sc ifs tc) (he:∀ X',InC X sc X'→PE X' elt te)
  (T:Turn X.prog X.w X.K tg J fp it tn) (st:tn 0 s.heap) (hf:∀ b∈fp,FpOk X pins H b) (R:V→Hp→Prop)
  (hW:∀ a,H a=none→∃ W:Nat→Nat→List V→St→Hp→Prop,(∃ m,W 0 m [] (dY ow σ) (upd H a (.lst [])))∧∀ i m ys σ2 H2,W i m ys σ2 H2 →
   H2 a=some (.lst ys)∧((J.stop i H2∧R (.ref a) H2)∨(J.go i H2∧∀ x H3,J.yld i H2 x H3→g x σ2 H3 fun σ4 H4=>tc σ4 H4 fun b H5 =>
    if b=true then te σ4 H5 fun y H6=>H6 a=some (.lst ys)∧ys.length < sizeLine∧∃ m',m' < m∧W (i+1) m' (ys++[y]) σ4 (upd H6 a (.lst (ys++[y])))
    else ∃ m',m' < m∧W (i+1) m' ys σ4 H5)))
  {RR:Value→Addr→Result→Shared→Prop}
  (hRR:∀ a C s' H' m,s.heap.objs.size≤C→Inv X pins σ H' s'→s'.heap.Ns C m→H' C=none→C≠X.env.locals→(∀ x c,X.env.cells.lookup x=some c→c≠C)→(∀ p∈X.pn++pins,p.1≠C)→R (.ref a) H'→RR (.ref a) C (.ok .next) s')
  (E:Value→Shared→Prop) :
  wpAny (model X.prog X.w) X.A (newList []) (fun acc s₃=>wpAny (model X.prog X.w) X.A (newFunctionEnv sc X.env.globals (capt X.env.cells sc.names []) [] X.env.qual none .none (some X.env)) (fun cenv s₄ =>
   codeAny (model X.prog X.w) X.A (.compStart (.ListComp elt [⟨tg,iter,ifs,0⟩] sc pos) 0 (.ref it) acc { cenv with scope:=relabel sc X.env }) (RR acc cenv.locals) s₄) E s₃) E s:=by
 refine wpAny_newObj_type (wpAny_newFunctionEnv S.nocell (by intro y hy; simp at hy) (fun h₁ hns₁ hsb₁=>?_) S.kind)
 dsimp only at hns₁ hsb₁ ⊢
 have hna:H s.heap.objs.size=none:=I.hok.fresh (Nat.le_refl _)
 have I1 : Inv X pins σ (upd H s.heap.objs.size (.lst [])) { s with heap := s.heap.push { cls := .type "list", dict := none, data := .seq ([] : List Value).toArray } } :=
  I.laid (t':=s.toks) (fun b u e=>Heap.get?_push_of_some _ e) (Nat.le_refl _) ⟨Nat.zero_le _,[],0,.nil,Heap.get?_push_size _ rfl⟩
 generalize hH2 : s.heap.push { cls := .type "list", dict := none, data := .seq ([] : List Value).toArray } = h2 at hns₁ hsb₁ I1 ⊢
 have hC:h2.objs.size=s.heap.objs.size+1:=by rw [← hH2,Heap.size_push]
 have old:∀ b o,h2.get? b=some o→h₁.get? b=some o:=fun b o e=>hsb₁.extBut b o (Nat.ne_of_lt (Heap.lt_size e)) (Heap.get?_push_of_some _ e)
 have fpl:∀ b∈fp,b < s.heap.objs.size:=fun b hb=>let ⟨o,e,_⟩:=T.obj 0 _ st b hb; Heap.lt_size e
 have ups:∀ b,b < s.heap.objs.size→upd H s.heap.objs.size (.lst []) b=H b:=fun b hb=>aj (Nat.ne_of_lt hb)
 have hf1:∀ b∈fp,FpOk X pins (upd H s.heap.objs.size (.lst [])) b:=fun b hb=>by
  obtain ⟨f0,f⟩:=hf b hb
  exact ⟨by rw [ups b (fpl b hb)]; exact f0,f⟩
 have Ib:Inv (cxC X sc h2.objs.size fp pins { s with heap:=h2 } (upd H s.heap.objs.size (.lst []))) [] (dY ow σ) (upd H s.heap.objs.size (.lst [])) { s with heap:=h₁,toks:=s.toks+([]:List (Str × Value)).length } :=
  inv_comp (s:={ s with heap:=h2 }) I1 S (Nat.le_refl _) hf1 (fun b hb=>Nat.lt_of_lt_of_le (fpl b hb) (by show _≤h2.objs.size; (clear I hc S how hg ht he T st hf hW hRR hna hH2 hns₁ hsb₁ I1 old fpl ups hf1 hb; omega))) old hns₁ (e8 _ _) (fun i v e=>(jm e).1) fun i x v e1 e2 e3=>(jm e3).2 (how i x e1 e2)
 have inC:InC X sc (cxC X sc h2.objs.size fp pins { s with heap:=h2 } (upd H s.heap.objs.size (.lst []))):=⟨_,_,_,_,_,rfl⟩
 let X':Cx:=cxC X sc h2.objs.size fp pins { s with heap:=h2 } (upd H s.heap.objs.size (.lst []))
 have Ib:Inv X' [] (dY ow σ) (upd H s.heap.objs.size (.lst [])) { s with heap:=h₁,toks:=s.toks+([]:List (Str × Value)).length }:=Ib
 have st1:tn 0 h₁:=T.keep 0 _ _ st fun b hb o e=>old b o (hH2 ▸ Heap.get?_push_of_some _ e)
 have fpX:∀ {H':Hp},(∀ b∈fp,H' b=none)→∀ b∈fp,FpOk X' [] H' b:=fun {H'} hn b hb=>by
  obtain ⟨f0,f1,f2,f3,f4,f5⟩:=hf b hb
  obtain ⟨g1,g2⟩:=Ib.ok.exf b hb
  refine ⟨hn b hb,g1,fun z=>Ib.ok.exfs b hb z,.inl hb,g2,fun p hp=>?_⟩
  refine f5 p ?_
  have hp:p∈(X.pn++pins)++[]:=hp
  simpa using hp
 have back:∀ {σ3:St} {H3:Hp} {s4:Shared},Inv X' [] σ3 H3 s4→Inv X pins σ H3 s4:=fun {σ3 H3 s4} I4=>by
  refine Inv.call' (ch:=fp) I1 I4.os I4.base I4.hok I4.bare fun b hb=>?_
  obtain ⟨f0,f1,f2,f3,f4,f5⟩:=hf b hb
  exact ⟨f3,f1,f4,f5⟩
 have fin:∀ {σ3:St} {H3:Hp} {s4:Shared},Inv X' [] σ3 H3 s4→R (.ref s.heap.objs.size) H3→RR (.ref s.heap.objs.size) h2.objs.size (.ok .next) s4:=fun {σ3 H3 s4} I4 q=>by
  obtain ⟨m4,n4,_⟩:=I4.loc
  have n4':s4.heap.Ns h2.objs.size m4:=n4
  have fC:H3 h2.objs.size=none:=I4.free
  refine hRR _ _ s4 H3 m4 (by rw [hC]; exact Nat.le_succ _) (back I4) n4' fC ?_ (fun x c e=>?_) (fun p hp=>?_) q
  ·rw [hC]; exact Nat.ne_of_gt (Nat.lt_succ_of_lt I.lt)
  ·obtain ⟨v,qc⟩:=I.cell x c e
   rw [hC]; exact Nat.ne_of_lt (Nat.lt_succ_of_lt qc.lt)
  ·rw [hC]; exact Nat.ne_of_lt (Nat.lt_succ_of_lt (Heap.lt_size (I.pin p hp).1))
 have loop:codeAny (model X.prog X.w) X.A (.compLoop (.ListComp elt [⟨tg,iter,ifs,0⟩] sc pos) 0 (.ref it) (.ref s.heap.objs.size) (compEnvC sc (capt X.env.cells sc.names []) h2.objs.size X.env)) (RR (.ref s.heap.objs.size) h2.objs.size)
   { s with heap:=h₁,toks:=s.toks+([]:List (Str × Value)).length }:=by
  obtain ⟨W,⟨m0,w0⟩,hW⟩:=hW _ hna
  refine compLoop_any (CI X' tn fp W) _ rfl ?_ m0 ⟨0,[],_,_,Ib,st1,fun b hb=>(hf1 b hb).1,w0⟩
  intro n s3 h3
  obtain ⟨i,ys,σ3,H3,I3,st3,fr3,w3⟩:=h3
  obtain ⟨ha,hstep⟩:=hW i n ys σ3 H3 w3
  rcases hstep with ⟨stop,q⟩ | ⟨go,step⟩
  ·refine thn (T.done X' rfl rfl rfl hc i [] s3 σ3 H3 _ I3 (fpX fr3) st3 stop) fun r s4 hh_=>?_
   obtain ⟨hr,I4⟩:=hh_
   subst hr
   exact fin I4 q
  ·refine thn (T.item X' rfl rfl rfl hc i [] s3 σ3 H3 _ I3 (fpX fr3) st3 go) fun r s4 hh_=>?_
   obtain ⟨u,hr,h4⟩:=hh_
   subst hr
   refine thn h4 fun _ s5 hh_=>?_
   obtain ⟨x,H5,I5,r5,y5,st5,fr5⟩:=hh_
   have I5':=I5.pinned (fpX fr5) (T.obj _ _ st5)
   refine wpAny_mono (hg X' inC _ s5 σ3 H5 x u _ I5' r5 (step x H5 y5)) (fun _ s6 hh_=>?_) (fun _ _ z=>(show False from z).elim)
   obtain ⟨σ6,H6,I6,q6⟩:=hh_
   have again:∀ {σ7:St} {H7:Hp} {s7:Shared} {zs:List V},Inv X' ([]++jc fp s5.heap) σ7 H7 s7→(∃ m',m' < n∧W (i+1) m' zs σ7 H7) →
     ∃ m,m < n∧CI X' tn fp W m s7:=fun {σ7 H7 s7 zs} I7 ⟨m',hm,w7⟩=>by
    refine ⟨m',hm,i+1,zs,σ7,H7,I7.unpinned,T.keep _ _ _ st5 fun b hb o e=>(I7.pin (b,o) (List.mem_append_right _ (List.mem_append_right _ (eY hb e)))).1,fun b hb=>?_,w7⟩
    obtain ⟨o,e,d⟩:=T.obj _ _ st5 b hb
    exact (I7.pin (b,o) (List.mem_append_right _ (List.mem_append_right _ (eY hb e)))).2.1
   have tests:wpAny (model X'.prog X'.w) X'.A (forIn ifs true fun c r=>if r=true then do let ok ← isTrue c X'.env (eval c X'.env); pure (ForInStep.yield ok) else pure (ForInStep.yield r))
     (fun b s7=>∃ H7,Inv X' ([]++jc fp s5.heap) σ6 H7 s7∧if b=true then te σ6 H7 fun y H8=>H8 s.heap.objs.size=some (.lst ys)∧ys.length < sizeLine∧∃ m',m' < n∧W (i+1) m' (ys++[y]) σ6 (upd H8 s.heap.objs.size (.lst (ys++[y])))
      else ∃ m',m' < n∧W (i+1) m' ys σ6 H7) X'.xe s6:=by
    rcases ht with ⟨e1,e2⟩ | ⟨c,e1,hcc⟩
    ·subst e1
     rw [e2] at q6
     exact wpAny_pure ⟨H6,I6,q6⟩
    ·subst e1
     exact wpAny_tests_one (thn (hcc X' inC _ s6 σ6 H6 _ I6 q6) fun b s7 hh_=>(by obtain ⟨H7,I7,q7⟩:=hh_; exact (⟨H7,I7,q7⟩)))
   refine wpAny_mono tests (fun b s7 hh_=>?_) (fun _ _ z=>(show False from z).elim)
   obtain ⟨H7,I7,q7⟩:=hh_
   cases b with
   | false =>
    rw [if_neg Bool.false_ne_true] at q7 ⊢
    exact again I7 q7
   | true =>
    rw [if_pos rfl] at q7 ⊢
    refine wpAny_mono (he X' inC _ s7 σ6 H7 _ I7 q7) (fun y s8 hh_=>?_) (fun _ _ z=>(show False from z).elim)
    obtain ⟨yv,H8,I8,r8,ha8,hz8,q8⟩:=hh_
    refine wpAny_mono (cn (X:=X') _ s8 σ6 H8 (.ref s.heap.objs.size) [yv] (.ref s.heap.objs.size) [y] (fun v H9=>H9=upd H8 s.heap.objs.size (.lst (ys++[yv]))) I8 rfl (.cons r8 .nil) ⟨_,ys,yv,rfl,rfl,ha8,hz8,rfl⟩) (fun _ s9 hh_=>?_) (fun _ _ z=>(show False from z).elim)
    obtain ⟨v9,H9,I9,r9,q9⟩:=hh_
    subst q9
    exact again I9 q8
 exact codeAny_compStart_list loop (T.self _ 0 _ _ _ st1 loop)
theorem comp_clos (I:Inv X pins σ H s) (S:eM X sc):closureFor sc X.env=pure (capt X.env.cells sc.names []):=closure_capt fun y hy hk=>by
 obtain ⟨n,kd⟩:=y
 have hk:kd=NameKind.free:=hk
 exact I.ok.has n (S.free _ hy hk).2
theorem pe_comp {tg iter elt:Expr} {ifs:List Expr} {pos:Pos} {wi:TI} {g:TG} {tc:TT} {te:TE} (ow:List Nat) (hc:X.calm=true) (S:eM X sc)
  (how:∀ (i:Nat) (x:Str),X.N[i]?=some x→sc.names.lookup x=some NameKind.local→i∈ow) (hi:PI X tg iter wi) (hg:∀ X',InC X sc X'→PG X' tg g) (ht:PIfs X sc ifs tc) (he:∀ X',InC X sc X'→PE X' elt te)
  (hs:∀ x,foldedSetIterable iter X.env x=pure x:=by intro _; rfl):PE X (.ListComp elt [⟨tg,iter,ifs,0⟩] sc pos) (tComp wi g tc te ow):=by
 intro pins s σ H Q I h
 rw [eval_ListComp]
 refine wpAny_comprehension_free (use:=none) rfl hs (comp_clos I S) S.kind S.names (thn (hi pins s σ H _ I h) fun v s1 h1=>thn h1 fun itv s2 h2=>?_)
 refine zz fun P_ k_=>?_
 obtain ⟨it,fp,tn,J,H2,e,I2,T,st2,f2,hW⟩:=h2
 refine k_ ?_
 subst e
 refine jo (RR:=fun acc C=>compPost (model X.prog X.w) X.A X.xe none (EP X pins σ Q) acc C) I2 hc S how hg ht he T st2 f2 Q hW ?_ X.xe
 intro a C s' H' m hC I' hn fC n1 n2 n3 q
 refine ⟨m,hn,fun h' sb=>⟨.ref a,H', ?_,rfl,q⟩⟩
 exact I'.turned (t':=s'.toks) (fun b o hb e=>(sb.2 b hb).trans e) fC n1 (.inr (Nat.le_trans I2.sz hC)) n2 n3
theorem ps_comp {tg iter elt:Expr} {ifs:List Expr} {pos spos py:Pos} {wi:TI} {g:TG} {tc:TT} {te:TE} {j:Nat} {y:Str} (ow:List Nat) (hc:X.calm=true) (hN:X.N.Nodup) (hj:X.N[j]?=some y) (hy:Loc X.env.scope y) (S:eM X sc)
  (how:∀ (i:Nat) (x:Str),X.N[i]?=some x→sc.names.lookup x=some NameKind.local→i∈ow) (hi:PI X tg iter wi) (hg:∀ X',InC X sc X'→PG X' tg g) (ht:PIfs X sc ifs tc) (he:∀ X',InC X sc X'→PE X' elt te)
  (hsw:swapsWith (.ListComp elt [⟨tg,iter,ifs,0⟩] sc pos) (some (.Name y py)) spos.line X.env=pure true)
  (hf:X.fn y=true∨X.env.scope.names.lookup y=some .local) (hs:∀ x,foldedSetIterable iter X.env x=pure x:=by intro _; rfl) :
  PS X (.Assign [.Name y py] (.ListComp elt [⟨tg,iter,ifs,0⟩] sc pos) spos) (tAsg (tComp wi g tc te ow) (iE j)):=by
 intro pins s σ H D I h
 rw [exec_Assign_Name_used _ _ _ _ hsw]
 refine wpAny_bind (wpAny_standAt (wpAny_bind ?_))
 show wpAny _ _ (do let _ ← comprehension (.ListComp elt [⟨tg,iter,ifs,0⟩] sc pos) sc X.env _ (newList []) false (eval iter X.env) (some (assign (.Name y py) X.env))) _ _ s
 refine wpAny_bind (wpAny_mono (wpAny_comprehension_free (use:=some (assign (.Name y py) X.env)) (Q:=fun _ s'=>SP X pins D .next s') rfl hs (comp_clos I S) S.kind S.names
  (thn (hi pins s σ H _ I h) fun v s1 h1=>thn h1 fun itv s2 h2=>?_)) (fun _ s' hq=>wpAny_pure (wpAny_pure hq)) fun _ _ e=>e)
 refine zz fun P_ k_=>?_
 obtain ⟨it,fp,tn,J,H2,e,I2,T,st2,f2,hW⟩:=h2
 refine k_ ?_
 subst e
 refine jo (RR:=fun acc C=>compPost (model X.prog X.w) X.A X.xe (some (assign (.Name y py) X.env)) (fun _ s'=>SP X pins D .next s') acc C) I2 hc S how hg ht he T st2 f2 (fun x H1=>iE j x σ H1 D.nx) hW ?_ X.xe
 intro a C s' H' m hC I' hn fC n1 n2 n3 q
 show wpAny _ _ (assign (.Name y py) X.env (.ref a)) _ _ _
 refine wpAny_assign_Name (store_ok2 I' hN hj hy (show RelV (.ref a) (.ref a) from rfl) (fun s3 I3 sb=>?_) hf)
 obtain ⟨z,sb,hz⟩:=sb
 have nz:C≠z:=by
  rcases hz with e | e
  ·rw [e]; exact n1
  ·exact Ne.symm (n2 _ _ e)
 refine ⟨m,hn.sameBut sb nz,fun h' sb'=>⟨_,H', ?_,q⟩⟩
 exact I3.turned (t':=s3.toks) (fun b o hb e=>(sb'.2 b hb).trans e) fC n1 (.inr (Nat.le_trans I2.sz hC)) n2 n3
end
end L2
namespace Vi
open PySem (Str)
noncomputable abbrev Key:=Sum Int Str
inductive D where
 | non
 | bl (b:Bool)
 | int (i:Int)
 | str (x:Str)
 | tup (l:List D)
 | lst (l:List D)
 | dK (l:List (Key × D))
 | dT (l:List (List Key × D))
 | obj (c:Nat) (fs:List (Str × D))
set_option genInjectivity true in
inductive R (α:Type) where
 | ok (a:α)
 | ex (x:D)
 | bad
noncomputable def R.bind {α β:Type}:R α→(α→R β)→R β
 | .ok a,f=>f a
 | .ex x,_=>.ex x
 | .bad,_=>.bad
noncomputable instance:Monad R where
 pure:=R.ok
 bind:=R.bind
@[simp] theorem R.ok_bind {α β:Type} (a:α) (f:α→R β):(R.ok a >>= f)=f a:=rfl
@[simp] theorem R.ex_bind {α β:Type} (x:D) (f:α→R β):(R.ex x >>= f)=R.ex x:=rfl
@[simp] theorem R.bad_bind {α β:Type} (f:α→R β):((R.bad:R α) >>= f)=R.bad:=rfl
@[simp] theorem R.pure_eq {α:Type} (a:α):(pure a:R α)=R.ok a:=rfl
theorem R.bind_ok {α β:Type} {x:R α} {f:α→R β} {b:β} (h:(x >>= f)=R.ok b):∃ a,x=.ok a∧f a=.ok b:=by
 cases x with
 | ok a=>exact ⟨a,rfl,h⟩
 | ex _=>injection h
 | bad=>injection h
mutual
noncomputable def D.imm:D→Bool
 | .non=>true
 | .bl _=>true
 | .int _=>true
 | .str _=>true
 | .tup l=>immL l
 | .lst _=>false
 | .dK _=>false
 | .dT _=>false
 | .obj _ _=>false
noncomputable def immL:List D→Bool
 | []=>true
 | d::r=>d.imm && immL r
end
theorem dh:∀ {l:List D},immL l=true↔∀ d∈l,d.imm=true:=by
 intro x_0
 induction x_0 with
 | nil =>
  simp [immL]
 | cons d r ih_ =>
  simp [immL,ih_]
noncomputable def D.flat:D→Bool
 | .lst l=>immL l
 | .dK l=>immL (l.map (·.2))
 | .dT l=>immL (l.map (·.2))
 | d=>d.imm
inductive Kd where
 | sto (is:List Nat)
 | old
 | bor
noncomputable def kdOf (d:D):Kd:=if d.flat=true then .sto [] else .bor
noncomputable def dt:D→Option Key
 | .int i=>some (.inl i)
 | .str x=>some (.inr x)
 | _=>none
noncomputable def cu:List D→Option (List Key)
 | []=>some []
 | d::r=>match dt d,cu r with
  | some k,some ks=>some (k::ks)
  | _,_=>none
noncomputable def keyD:Key→D
 | .inl i=>.int i
 | .inr x=>.str x
noncomputable def valD {κ:Type} [DecidableEq κ] (l:List (κ × D)) (k:κ):Option D:=(l.find? fun kv=>decide (kv.1=k)).map (·.2)
noncomputable def putD {κ:Type} [DecidableEq κ] (l:List (κ × D)) (k:κ) (v:D):List (κ × D) :=
 if (l.any fun kv=>decide (kv.1=k))=true then l.map (fun kv=>if kv.1=k then (kv.1,v) else kv) else l++[(k,v)]
noncomputable def da:D→D→Option (Option D)
 | .dK l,k=>match dt k with | some k=>some (valD l k) | none=>none
 | .dT l,.tup ks=>match cu ks with | some k=>some (valD l k) | none=>none
 | _,_=>none
noncomputable def j8:D→D→D→Option D
 | .dK l,k,v=>match dt k with | some k=>if l.length < 1000000 then some (.dK (putD l k v)) else none | none=>none
 | .dT l,.tup ks,v=>match cu ks with | some k=>if l.length < 1000000 then some (.dT (putD l k v)) else none | none=>none
 | _,_,_=>none
noncomputable def eqLs (f:D→D→Option Bool):List D→List D→Option Bool
 | [],[]=>some true
 | a::r,b::t=>match f a b,eqLs f r t with
  | some x,some y=>some (x && y)
  | _,_=>none
 | [],_::_=>some false
 | _::_,[]=>some false
noncomputable def eqN:Nat→D→D→Option Bool
 | 0,_,_=>none
 | _+1,.non,.non=>some true
 | _+1,.bl a,.bl b=>some (a == b)
 | _+1,.int a,.int b=>some (a == b)
 | _+1,.str a,.str b=>some (a == b)
 | n+1,.tup a,.tup b=>eqLs (eqN n) a b
 | n+1,.lst a,.lst b=>eqLs (eqN n) a b
 | _+1,.non,.int _=>some false
 | _+1,.int _,.non=>some false
 | _+1,.non,.tup _=>some false
 | _+1,.tup _,.non=>some false
 | _+1,.non,.str _=>some false
 | _+1,.str _,.non=>some false
 | _+1,.non,.bl _=>some false
 | _+1,.bl _,.non=>some false
 | _+1,.int _,.str _=>some false
 | _+1,.str _,.int _=>some false
 | _+1,_,_=>none
theorem eqN_1 (n:Nat)  : eqN (n+1) .non .non=some true:=rfl
theorem eqN_2 (n:Nat) (a:Bool) (b:Bool):eqN (n+1) (.bl a) (.bl b)=some (a == b):=rfl
theorem eqN_3 (n:Nat) (a:Int) (b:Int):eqN (n+1) (.int a) (.int b)=some (a == b):=rfl
theorem eqN_4 (n:Nat) (a:Str) (b:Str):eqN (n+1) (.str a) (.str b)=some (a == b):=rfl
theorem eqN_5 (n:Nat) (a:List D) (b:List D):eqN (n+1) (.tup a) (.tup b)=eqLs (eqN n) a b:=rfl
theorem eqN_6 (n:Nat) (a:List D) (b:List D):eqN (n+1) (.lst a) (.lst b)=eqLs (eqN n) a b:=rfl
theorem eqN_7 (n:Nat) (u1:Int):eqN (n+1) .non (.int u1)=some false:=rfl
theorem eqN_8 (n:Nat) (u1:Int):eqN (n+1) (.int u1) .non=some false:=rfl
theorem eqN_9 (n:Nat) (u1:List D):eqN (n+1) .non (.tup u1)=some false:=rfl
theorem eqN_10 (n:Nat) (u1:List D):eqN (n+1) (.tup u1) .non=some false:=rfl
theorem eqN_11 (n:Nat) (u1:Str):eqN (n+1) .non (.str u1)=some false:=rfl
theorem eqN_12 (n:Nat) (u1:Str):eqN (n+1) (.str u1) .non=some false:=rfl
theorem eqN_13 (n:Nat) (u1:Bool):eqN (n+1) .non (.bl u1)=some false:=rfl
theorem eqN_14 (n:Nat) (u1:Bool):eqN (n+1) (.bl u1) .non=some false:=rfl
theorem eqN_15 (n:Nat) (u1:Int) (u2:Str):eqN (n+1) (.int u1) (.str u2)=some false:=rfl
theorem eqN_16 (n:Nat) (u1:Str) (u2:Int):eqN (n+1) (.str u1) (.int u2)=some false:=rfl
noncomputable def eqD (a b:D):Option Bool:=eqN 8 a b
inductive Op where
 | add | sub | mul | fdiv | mod | pow
inductive Cp where
 | eq | ne | lt | le | gt | ge | isN | notN | mem | nmem
noncomputable def i2 {α:Type} (f:Int→Int→R α):D→D→R α
 | .int a,.int b=>f a b
 | _,_=>.bad
noncomputable def addD:D→D→R D
 | .int a,.int b=>.ok (.int (a+b))
 | .lst a,.lst b=>if a.length+b.length≤1000000 then .ok (.lst (a++b)) else .bad
 | _,_=>.bad
noncomputable def opD:Op→D→D→R D
 | .add=>addD
 | .sub=>i2 fun a b=>.ok (.int (a - b))
 | .mul=>i2 fun a b=>if (-(2 ^ 64) < a∧a < 2 ^ 64)∨(-(2 ^ 64) < b∧b < 2 ^ 64) then .ok (.int (a * b)) else .bad
 | .fdiv=>i2 fun a b=>if 0 < b∧b < 1073741824 then .ok (.int (a / b)) else .bad
 | .mod=>i2 fun a b=>if 0 < b then .ok (.int (a % b)) else .bad
 | .pow=>i2 fun a b=>if 0≤b∧b≤1000000∧a.natAbs < 2 ^ 64 then .ok (.int (a ^ b.toNat)) else .bad
theorem opD_1 (a b:Int):opD .add (.int a) (.int b)=(.ok (.int (a+b))):=rfl
theorem opD_2 (a b:Int):opD .sub (.int a) (.int b)=(.ok (.int (a - b))):=rfl
theorem opD_4 (a b:Int):opD .fdiv (.int a) (.int b)=(if 0 < b∧b < 1073741824 then .ok (.int (a / b)) else .bad):=rfl
theorem d5 (a b:Int):opD .mod (.int a) (.int b)=(if 0 < b then .ok (.int (a % b)) else .bad):=rfl
theorem opD_7 (a b:List D):opD .add (.lst a) (.lst b)=(if a.length+b.length≤1000000 then .ok (.lst (a++b)) else .bad):=rfl
inductive Bi where
 | len | sorted | sum | any | all | list | tuple | dict | isInt | isBool | isTuple | isList | items | sortT | sortI
inductive Itk where
 | each | range | enum | keys | zip
inductive E where
 | nil
 | var (i:Nat)
 | int (i:Int)
 | bl (b:Bool)
 | non
 | str (x:Str)
 | glb (d:D)
 | bin (o:Op) (a b:E)
 | neg (a:E)
 | cmp (o:Cp) (a b:E)
 | not (a:E)
 | and (a b:E)
 | or (a b:E)
 | ife (c a b:E)
 | call (f:Nat) (as:List E)
 | make (f:Nat) (as:List E)
 | meth (f:Nat) (m:Str) (o:E) (as:List E)
 | bi (b:Bi) (as:List E)
 | get1 (o k:E)
 | get2 (o k x:E)
 | fld (o:E) (x:Str)
 | ix (a i:E)
 | dix (a i:E)
 | sl (a lo hi:E)
 | rev (a:E)
 | isB (a:E) (b:Bool)
 | tup (as:List E)
 | lst (as:List E)
 | dnew (t:Bool)
 | comp (e:E) (tg:List Nat) (one:Bool) (k:Itk) (it:List E) (c:E)
inductive S where
 | set (i:Nat) (e:E)
 | unp (is:List Nat) (e:E)
 | ret (e:E)
 | ifs (c:E) (a b:List S)
 | for (tg:List Nat) (one:Bool) (k:Itk) (it:List E) (b:List S)
 | whl (n:Nat) (c:E) (b:List S)
 | app (i:Nat) (e:E)
 | rvs (i:Nat)
 | clr (i:Nat)
 | pop (i j:Nat)
 | ext (i:Nat) (e:E)
 | eachRvs (t i:Nat)
 | eachClr (t i:Nat)
 | appIx (i j:Nat) (e:E)
 | rvsL (i:Nat)
 | chg (i:Nat) (e:E)
 | put (i:Nat) (k v:E)
 | fset (x:Str) (e:E)
 | expr (e:E)
 | shr (i j:Nat) (b:List S)
 | raise
 | brk
 | cnt
 | pass
noncomputable abbrev Env:=List (Option (D × Bool))
set_option genInjectivity true in
inductive Out where
 | nx (ρ:Env)
 | bk (ρ:Env)
 | ct (ρ:Env)
 | rt (d:D)
 | ex (x:D)
 | bad
structure Tab where
 fn:Nat→List D→R D
 new:Nat→List D→R D
noncomputable def ff:Kd→Kd→Kd
 | .sto a,.sto b=>if a.all (fun i=>!b.contains i)=true then .sto (a++b) else .bor
 | _,_=>.bor
noncomputable def getV (ρ:Env) (i:Nat):R (D × Kd):=match ρ[i]? with
 | some (some (d,o))=>.ok (d,if d.imm=true then .sto [] else if o=true then .sto [i] else .old)
 | _=>.bad
noncomputable def dG (d:D):Kd→Kd
 | .old=>if d.imm=true then .sto [] else .old
 | _=>if d.imm=true then .sto [] else .bor
noncomputable def immK (d:D):Kd:=if d.imm=true then .sto [] else .bor
noncomputable def atomEq:D→D→Option Bool
 | .int a,.int b=>some (a == b)
 | .str a,.str b=>some (a == b)
 | _,_=>none
noncomputable def memL (x:D):List D→Option Bool
 | []=>some false
 | y::r=>match atomEq y x,memL x r with
  | some a,some b=>some (a || b)
  | _,_=>none
noncomputable def tupKs:List D→Option (List (List Key))
 | []=>some []
 | .tup l::r=>match cu l,tupKs r with
  | some k,some ks=>some (k::ks)
  | _,_=>none
 | _::_=>none
noncomputable def memT (x:D) (l:List D):Option Bool:=match x with
 | .tup t=>(match cu t,tupKs l with
  | some k,some ks=>some (ks.any fun j=>decide (j=k))
  | _,_=>none)
 | _=>none
noncomputable def memD (x c:D):Option Bool:=match c with
 | .lst l=>if (dt x).isSome=true then memL x l else memT x l
 | .tup l=>if (dt x).isSome=true then memL x l else none
 | _=>match da c x with
  | some o=>some o.isSome
  | none=>none
noncomputable def isNon:D→Bool
 | .non=>true
 | _=>false
noncomputable def cmpD (o:Cp) (a b:D):R Bool:=match o with
 | .eq=>match eqD a b with | some k=>.ok k | none=>.bad
 | .ne=>match eqD a b with | some k=>.ok (!k) | none=>.bad
 | .lt=>i2 (fun a b=>.ok (decide (a < b))) a b
 | .le=>i2 (fun a b=>.ok (decide (a≤b))) a b
 | .gt=>i2 (fun a b=>.ok (decide (b < a))) a b
 | .ge=>i2 (fun a b=>.ok (decide (b≤a))) a b
 | .isN=>if isNon b=true then .ok (isNon a) else .bad
 | .notN=>if isNon b=true then .ok (!isNon a) else .bad
 | .mem=>match memD a b with | some k=>.ok k | none=>.bad
 | .nmem=>match memD a b with | some k=>.ok (!k) | none=>.bad
theorem cmpD_1 (a:D) (b:D):cmpD .eq a b=(match eqD a b with | some k=>.ok k | none=>.bad):=rfl
theorem cmpD_2 (a:D) (b:D):cmpD .ne a b=(match eqD a b with | some k=>.ok (!k) | none=>.bad):=rfl
theorem cmpD_3 (a:Int) (b:Int):cmpD .lt (.int a) (.int b)=(.ok (decide (a < b))):=rfl
theorem cmpD_9 (a:D) (b:D):cmpD .mem a b=(match memD a b with | some k=>.ok k | none=>.bad):=rfl
theorem cmpD_10 (a:D) (b:D):cmpD .nmem a b=(match memD a b with | some k=>.ok (!k) | none=>.bad):=rfl
noncomputable def truD:D→R Bool
 | .non=>.ok false
 | .bl b=>.ok b
 | .int i=>.ok (i != 0)
 | .lst l=>.ok (!l.isEmpty)
 | .tup l=>.ok (!l.isEmpty)
 | _=>.bad
noncomputable def atD (n:Nat) (i:Int):Option Nat:=if 0≤i then (if i < n then some i.toNat else none) else if -(n:Int)≤i then some (i+n).toNat else none
noncomputable def ixD (a i:D):R D:=match a,i with
 | .lst l,.int i=>match atD l.length i with
  | some k=>match l[k]? with | some d=>.ok d | none=>.bad
  | none=>.bad
 | .tup l,.int i=>match atD l.length i with
  | some k=>match l[k]? with | some d=>.ok d | none=>.bad
  | none=>.bad
 | _,_=>.bad
noncomputable def cutAt (n:Nat) (d:Nat):Option Int→Nat
 | none=>d
 | some i=>if i < 0 then (i+n).toNat else min i.toNat n
noncomputable def cutD {α:Type} (xs:List α) (lo hi:Option Int):List α:=(xs.drop (cutAt xs.length 0 lo)).take (cutAt xs.length xs.length hi - cutAt xs.length 0 lo)
noncomputable def bP (ρ:Env) (i:Nat) (d:D) (k:Kd):Option Env:=if i < ρ.length then (match k with
 | .sto is=>some ((is.foldl (fun t j=>t.set j none) ρ).set i (some (d,true)))
 | .old=>some (ρ.set i (some (d,false)))
 | .bor=>none) else none
noncomputable def bw (a:Int) (step:Int):Nat→List D
 | 0=>[]
 | n+1=>.int a::bw (a+step) step n
noncomputable def enumD (k:Int):List D→List D
 | []=>[]
 | d::r=>.tup [.int k,d]::enumD (k+1) r
noncomputable def zipD:List D→List D→List D
 | x::a,y::b=>.tup [x,y]::zipD a b
 | _,_=>[]
noncomputable def dU:Itk→List D→Option (List D)
 | .each,[.lst l]=>some l
 | .each,[.tup l]=>some l
 | .keys,[.dK l]=>some (l.map fun kv=>keyD kv.1)
 | .zip,[.lst a,.lst b]=>some (zipD a b)
 | .enum,[.lst l]=>if immL l=true then some (enumD 0 l) else none
 | .range,[.int n]=>if -(2 ^ 62)≤n∧n < 2 ^ 62 then some (bw 0 1 n.toNat) else none
 | .range,[.int a,.int b]=>if -(2 ^ 62)≤a∧a < 2 ^ 62∧-(2 ^ 62)≤b∧b < 2 ^ 62 then some (bw a 1 (b - a).toNat) else none
 | .range,[.int a,.int b,.int c]=>if -(2 ^ 62)≤a∧a < 2 ^ 62∧-(2 ^ 62)≤b∧b < 2 ^ 62∧c=2 then some (bw a 2 ((b - a+1) / 2).toNat) else none
 | _,_=>none
theorem gP (l:List D):dU .each [.lst l]=(some l):=rfl
theorem gO (l:List D):dU .each [.tup l]=(some l):=rfl
theorem gN (n:Int):dU .range [.int n]=(if -(2 ^ 62)≤n∧n < 2 ^ 62 then some (bw 0 1 n.toNat) else none):=rfl
theorem gM (a:Int) (b:Int):dU .range [.int a,.int b]=(if -(2 ^ 62)≤a∧a < 2 ^ 62∧-(2 ^ 62)≤b∧b < 2 ^ 62 then some (bw a 1 (b - a).toNat) else none):=rfl
theorem gL (a:Int) (b:Int) (c:Int):dU .range [.int a,.int b,.int c]=(if -(2 ^ 62)≤a∧a < 2 ^ 62∧-(2 ^ 62)≤b∧b < 2 ^ 62∧c=2 then some (bw a 2 ((b - a+1) / 2).toNat) else none):=rfl
noncomputable def eL:Env→List Nat→List D→Option Env
 | ρ,i::tg,d::ds=>match bP ρ i d (dG d .old) with
  | some ρ'=>eL ρ' tg ds
  | none=>none
 | ρ,_,_=>some ρ
noncomputable def bv (ρ:Env) (tg:List Nat) (one:Bool) (d:D) (k:Kd):Option Env:=match one,tg with
 | true,[i]=>bP ρ i d (dG d k)
 | false,tg=>match d with
  | .tup ds=>if ds.length=tg.length∧d.imm=true then some ((tg.zip ds).foldl (fun t p=>t.set p.1 (some (p.2,true))) ρ) else if ds.length=tg.length then eL ρ tg ds else none
  | _=>none
 | _,_=>none
noncomputable def ca (f:D→R (Option (D × Kd))):List D→R (List D × Bool)
 | []=>.ok ([],true)
 | d::r=>match f d with
  | .ok none=>ca f r
  | .ok (some (y,.sto []))=>(match ca f r with
   | .ok (ys,b)=>.ok (y::ys,b)
   | .ex x=>.ex x
   | .bad=>.bad)
  | .ok (some (y,.old))=>(match ca f r with
   | .ok (ys,_)=>.ok (y::ys,false)
   | .ex x=>.ex x
   | .bad=>.bad)
  | .ok (some _)=>.bad
  | .ex x=>.ex x
  | .bad=>.bad
noncomputable def inComp (ρ:Env) (tg:List Nat):Env:=tg.foldl (fun t i=>t.set i none) (ρ.map fun e=>e.map fun p=>(p.1,false))
noncomputable def fq (ρ:Env) (tg:List Nat) (one:Bool) (c:Env→R Bool) (e:Env→R (D × Kd)) (d:D):R (Option (D × Kd)):=match bv (inComp ρ tg) tg one d .old with
 | none=>.bad
 | some ρ1=>match c ρ1 with
  | .ok true=>(match e ρ1 with
   | .ok y=>.ok (some y)
   | .ex x=>.ex x
   | .bad=>.bad)
  | .ok false=>.ok none
  | .ex x=>.ex x
  | .bad=>.bad
noncomputable def sumD:List D→R Int
 | []=>.ok 0
 | .int i::r=>match sumD r with | .ok n=>.ok (i+n) | .ex x=>.ex x | .bad=>.bad
 | _=>.bad
noncomputable def fm:List D→Option (List Bool)
 | []=>some []
 | .bl b::r=>(fm r).map (b :: ·)
 | _=>none
noncomputable def jZ:List D→Option (List Int)
 | []=>some []
 | .int b::r=>(jZ r).map (b :: ·)
 | _=>none
noncomputable def dc:List D→Option (List (Key × D))
 | []=>some []
 | .tup [k,v]::r=>match dt k,dc r with
  | some k,some ps=>some ((k,v)::ps)
  | _,_=>none
 | _=>none
noncomputable def im (l more:List (Key × D)):List (Key × D):=more.foldl (fun acc kv=>putD acc kv.1 kv.2) l
noncomputable def sortI (l:List Int):List Int:=l.mergeSort (fun a b=>decide (a≤b))
noncomputable def iR (l:List D):Option (List D):=match jZ l with
 | some ns=>if ns.length < 64 then some ((sortI ns).map D.int) else none
 | none=>none
noncomputable def headD:D→Option Int
 | .tup (.int i::_)=>some i
 | _=>none
noncomputable def hkD (d:D):Int:=(headD d).getD 0
noncomputable def insT (x:D):List D→List D
 | []=>[x]
 | y::r=>if hkD x≤hkD y then x::y::r else y::insT x r
noncomputable def sortT (l:List D):List D:=l.foldr insT []
noncomputable def bE (l:List (Key × D)):List D:=l.map fun kv=>.tup [keyD kv.1,kv.2]
noncomputable def d8 (l:List D):Prop:=(∀ d∈l,(headD d).isSome=true)∧immL l=true∧(l.map hkD).Nodup∧l.length < 64
noncomputable instance (l:List D):Decidable (d8 l):=by unfold d8; infer_instance
noncomputable def bi1:Bi→D→R D
 | .len,.lst l=>.ok (.int l.length)
 | .len,.tup l=>.ok (.int l.length)
 | .len,.dK l=>.ok (.int l.length)
 | .sum,.lst l=>match sumD l with | .ok n=>.ok (.int n) | .ex x=>.ex x | .bad=>.bad
 | .any,.lst l=>match fm l with | some bs=>.ok (.bl (bs.any id)) | none=>.bad
 | .all,.lst l=>match fm l with | some bs=>.ok (.bl (bs.all id)) | none=>.bad
 | .list,.lst l=>if immL l=true then .ok (.lst l) else .bad
 | .list,.tup l=>if immL l=true then .ok (.lst l) else .bad
 | .tuple,.lst l=>if immL l=true then .ok (.tup l) else .bad
 | .dict,.lst l=>match dc l with | some ps=>if immL (ps.map (·.2))=true∧ps.length≤1000000 then .ok (.dK (im [] ps)) else .bad | none=>.bad
 | .sorted,.lst l=>match iR l with | some m=>.ok (.lst m) | none=>.bad
 | .sorted,.dK l=>match iR (l.map fun kv=>keyD kv.1) with | some m=>.ok (.lst m) | none=>.bad
 | .isInt,.int _=>.ok (.bl true)
 | .isInt,.bl _=>.ok (.bl true)
 | .isInt,.str _=>.ok (.bl false)
 | .isBool,.bl _=>.ok (.bl true)
 | .isBool,.int _=>.ok (.bl false)
 | .isBool,.str _=>.ok (.bl false)
 | .isTuple,.tup _=>.ok (.bl true)
 | .isList,.lst _=>.ok (.bl true)
 | .sortT,.lst l=>if d8 l then .ok (.lst (sortT l)) else .bad
 | .sortI,.dK l=>if d8 (bE l) then .ok (.lst (sortT (bE l))) else .bad
 | _,_=>.bad
noncomputable def biD (b:Bi):List D→R D
 | [d]=>bi1 b d
 | _=>.bad
theorem biD_21 (l:List D):biD .sortT [.lst l]=(if d8 l then .ok (.lst (sortT l)) else .bad):=rfl
theorem biD_22 (l:List (Key × D)):biD .sortI [.dK l]=(if d8 (bE l) then .ok (.lst (sortT (bE l))) else .bad):=rfl
theorem kf (l:List D):biD .len [.lst l]=(.ok (.int l.length)):=rfl
theorem biD_2 (l:List D):biD .len [.tup l]=(.ok (.int l.length)):=rfl
theorem biD_3 (l:List (Key × D)):biD .len [.dK l]=(.ok (.int l.length)):=rfl
theorem biD_4 (l:List D):biD .sum [.lst l]=(match sumD l with | .ok n=>.ok (.int n) | .ex x=>.ex x | .bad=>.bad):=rfl
theorem biD_5 (l:List D):biD .any [.lst l]=(match fm l with | some bs=>.ok (.bl (bs.any id)) | none=>.bad):=rfl
theorem biD_6 (l:List D):biD .all [.lst l]=(match fm l with | some bs=>.ok (.bl (bs.all id)) | none=>.bad):=rfl
theorem biD_7 (l:List D):biD .list [.lst l]=(if immL l=true then .ok (.lst l) else .bad):=rfl
theorem biD_8 (l:List D):biD .tuple [.lst l]=(if immL l=true then .ok (.tup l) else .bad):=rfl
theorem kb (l:List D):biD .dict [.lst l]=(match dc l with | some ps=>if immL (ps.map (·.2))=true∧ps.length≤1000000 then .ok (.dK (im [] ps)) else .bad | none=>.bad):=rfl
theorem iL (l:List D):biD .sorted [.lst l]=(match iR l with | some m=>.ok (.lst m) | none=>.bad):=rfl
theorem gu (l:List (Key × D)):biD .sorted [.dK l]=(match iR (l.map fun kv=>keyD kv.1) with | some m=>.ok (.lst m) | none=>.bad):=rfl
theorem jx (u1:Int):biD .isInt [.int u1]=(.ok (.bl true)):=rfl
theorem jw (u1:Bool):biD .isInt [.bl u1]=(.ok (.bl true)):=rfl
theorem jv (u1:Str):biD .isInt [.str u1]=(.ok (.bl false)):=rfl
theorem ju (u1:Bool):biD .isBool [.bl u1]=(.ok (.bl true)):=rfl
theorem jt (u1:Int):biD .isBool [.int u1]=(.ok (.bl false)):=rfl
theorem jr (u1:Str):biD .isBool [.str u1]=(.ok (.bl false)):=rfl
theorem jq (u1:List D):biD .isTuple [.tup u1]=(.ok (.bl true)):=rfl
theorem jp (u1:List D):biD .isList [.lst u1]=(.ok (.bl true)):=rfl
noncomputable def tru1 (r:R (D × Kd)):R Bool:=match r with
 | .ok (x,_)=>truD x
 | .ex x=>.ex x
 | .bad=>.bad
noncomputable def dispK:Kd→Kd
 | .sto is=>.sto is
 | _=>.bor
noncomputable def optI:E→D→Option (Option Int)
 | .nil,_=>some none
 | _,.int i=>some (some i)
 | _,_=>none
noncomputable def slD (x:D) (lo hi:Option (Option Int)):R (D × Kd):=match x with
 | .lst l=>(match lo with
  | some lo=>(match hi with
   | some hi=>if immL l=true then .ok (.lst (cutD l lo hi),.sto []) else .bad
   | none=>.bad)
  | none=>.bad)
 | _=>.bad
theorem slD_1 (l:List D) (lo hi:Option Int):slD (.lst l) (some lo) (some hi)=(if immL l=true then .ok (.lst (cutD l lo hi),.sto []) else .bad):=rfl
noncomputable def ownL:Option (Option (D × Bool))→Option (List D)
 | some (some (d,true))=>(match d with | .lst l=>some l | _=>none)
 | _=>none
theorem ownL_1 (l:List D):ownL (some (some (.lst l,true)))=some l:=rfl
theorem fO {o:Option (Option (D × Bool))} {l:List D} (h:ownL o=some l):o=some (some (.lst l,true)):=by
 match o,h with
 | some (some (d,true)),h =>
  cases d with
  | lst m=>(injection h with h; subst h); rfl
  | _=>injection h
 | some (some (d,false)),h=>injection h
 | some none,h=>injection h
 | none,h=>injection h
noncomputable def ownO:Option (Option (D × Bool))→Option (Nat × List (Str × D))
 | some (some (d,true))=>(match d with | .obj c fs=>some (c,fs) | _=>none)
 | _=>none
theorem ownO_1 (c:Nat) (fs:List (Str × D)):ownO (some (some (.obj c fs,true)))=some (c,fs):=rfl
theorem ownO_some {o:Option (Option (D × Bool))} {c:Nat} {fs:List (Str × D)} (h:ownO o=some (c,fs)):o=some (some (.obj c fs,true)):=by
 match o,h with
 | some (some (d,true)),h =>
  cases d with
  | obj e m=>cases h; rfl
  | _=>injection h
 | some (some (d,false)),h=>injection h
 | some none,h=>injection h
 | none,h=>injection h
mutual
noncomputable def runE (M:Tab):E→Env→R (D × Kd)
 | .nil,_=>.ok (.non,.sto [])
 | .var i,ρ=>getV ρ i
 | .int i,_=>.ok (.int i,.sto [])
 | .bl b,_=>.ok (.bl b,.sto [])
 | .non,_=>.ok (.non,.sto [])
 | .str x,_=>.ok (.str x,.sto [])
 | .glb d,_=>.ok (d,.sto [])
 | .bin o a b,ρ=>do
  let (x,_) ← runE M a ρ
  let (y,_) ← runE M b ρ
  let z ← opD o x y
  pure (z,kdOf z)
 | .neg a,ρ=>do
  let (x,_) ← runE M a ρ
  match x with
  | .int i=>pure (.int (-i),.sto [])
  | _=>.bad
 | .cmp o a b,ρ=>do
  let (x,_) ← runE M a ρ
  let (y,_) ← runE M b ρ
  let z ← cmpD o x y
  pure (.bl z,.sto [])
 | .not a,ρ=>do
  let (x,_) ← runE M a ρ
  match x with
  | .bl c=>pure (.bl (!c),.sto [])
  | _=>.bad
 | .and a b,ρ=>do
  let (x,_) ← runE M a ρ
  match x with
  | .bl true=>runE M b ρ
  | .bl false=>pure (.bl false,.sto [])
  | _=>.bad
 | .or a b,ρ=>do
  let (x,_) ← runE M a ρ
  match x with
  | .bl true=>pure (.bl true,.sto [])
  | .bl false=>runE M b ρ
  | _=>.bad
 | .ife c a b,ρ=>do
  let (x,_) ← runE M c ρ
  let t ← truD x
  if t=true then runE M a ρ else runE M b ρ
 | .call f as,ρ=>do
  let (ds,_) ← bY M as ρ
  let r ← M.fn f ds
  pure (r,.sto [])
 | .make f as,ρ=>do
  let (ds,_) ← bY M as ρ
  let r ← M.new f ds
  pure (r,.sto [])
 | .meth f m o as,ρ=>do
  let (x,_) ← runE M o ρ
  let (ds,_) ← bY M as ρ
  match x with
  | .obj _ fs=>if fs.lookup m=none then (do
   let r ← M.fn f (x::ds)
   pure (r,.sto [])) else .bad
  | _=>.bad
 | .bi b as,ρ=>do
  let (ds,_) ← bY M as ρ
  let r ← biD b ds
  pure (r,kdOf r)
 | .get1 o k,ρ=>do
  let (x,_) ← runE M o ρ
  let (y,_) ← runE M k ρ
  match da x y with
  | some r=>pure (r.getD .non,immK (r.getD .non))
  | none=>.bad
 | .get2 o k z,ρ=>do
  let (x,_) ← runE M o ρ
  let (y,_) ← runE M k ρ
  let (w,_) ← runE M z ρ
  match da x y with
  | some r=>pure (r.getD w,immK (r.getD w))
  | none=>.bad
 | .fld o x,ρ=>do
  let (v,k) ← runE M o ρ
  match v with
  | .obj _ fs=>match fs.lookup x with
   | some d=>pure (d,dG d k)
   | none=>.bad
  | _=>.bad
 | .ix a i,ρ=>do
  let (x,k) ← runE M a ρ
  let (y,_) ← runE M i ρ
  let d ← ixD x y
  pure (d,dG d k)
 | .dix a i,ρ=>do
  let (x,_) ← runE M a ρ
  let (y,_) ← runE M i ρ
  match da x y with
  | some (some d)=>pure (d,immK d)
  | _=>.bad
 | .sl a lo hi,ρ=>do
  let (x,_) ← runE M a ρ
  let (l,_) ← runE M lo ρ
  let (h,_) ← runE M hi ρ
  slD x (optI lo l) (optI hi h)
 | .rev a,ρ=>do
  let (x,_) ← runE M a ρ
  match x with
  | .lst l=>if immL l=true then pure (.lst l.reverse,.sto []) else .bad
  | .tup l=>if immL l=true then pure (.tup l.reverse,.sto []) else .bad
  | _=>.bad
 | .isB a b,ρ=>do
  let (x,_) ← runE M a ρ
  match x with
  | .int _=>pure (.bl false,.sto [])
  | _=>.bad
 | .tup as,ρ=>do
  let (ds,k) ← bY M as ρ
  if ds.length≤1000000 then pure (.tup ds,k) else .bad
 | .lst as,ρ=>do
  let (ds,k) ← bY M as ρ
  if ds.length≤1000000 then pure (.lst ds,dispK k) else .bad
 | .dnew t,_=>.ok (if t=true then .dT [] else .dK [],.sto [])
 | .comp e tg one ik it c,ρ=>do
  let (xs,_) ← runI M ik it ρ
  if 1000000 < xs.length then .bad else do
   let (ys,b) ← ca (fq ρ tg one (fun ρ1=>tru1 (runE M c ρ1)) (fun ρ1=>runE M e ρ1)) xs
   pure (.lst ys,if b=true then .sto [] else .bor)
noncomputable def bY (M:Tab):List E→Env→R (List D × Kd)
 | [],_=>.ok ([],.sto [])
 | a::r,ρ=>do
  let (d,k) ← runE M a ρ
  let (ds,k') ← bY M r ρ
  pure (d::ds,ff k k')
noncomputable def runI (M:Tab) (ik:Itk):List E→Env→R (List D × Kd)
 | [],_=>.bad
 | a::r,ρ=>do
  let (d,k) ← runE M a ρ
  let (ds,k') ← bY M r ρ
  match dU ik (d::ds) with
  | none=>.bad
  | some xs=>pure (xs,match ik with | .each=>k | .range=>.sto [] | .enum=>k | .keys=>k | .zip=>ff k k')
end
noncomputable def Out.bind (o:Out) (f:Env→Out):Out:=match o with
 | .nx ρ=>f ρ
 | .bk ρ=>.bk ρ
 | .ct ρ=>.ct ρ
 | .rt d=>.rt d
 | .ex x=>.ex x
 | .bad=>.bad
noncomputable def ofR {α:Type} (r:R α) (f:α→Out):Out:=match r with
 | .ok a=>f a
 | .ex x=>.ex x
 | .bad=>.bad
noncomputable def ofO (r:Option Env):Out:=match r with
 | some ρ=>.nx ρ
 | none=>.bad
noncomputable def forL (f:Env→D→Out):List D→Env→Out
 | [],ρ=>.nx ρ
 | d::r,ρ=>match f ρ d with
  | .nx ρ'=>forL f r ρ'
  | .ct ρ'=>forL f r ρ'
  | .bk ρ'=>.nx ρ'
  | .rt x=>.rt x
  | .ex x=>.ex x
  | .bad=>.bad
noncomputable def whlL (c:Env→R Bool) (f:Env→Out):Nat→Env→Out
 | 0,_=>.bad
 | n+1,ρ=>match c ρ with
  | .ok true=>match f ρ with
   | .nx ρ'=>whlL c f n ρ'
   | .ct ρ'=>whlL c f n ρ'
   | .bk ρ'=>.nx ρ'
   | .rt x=>.rt x
   | .ex x=>.ex x
   | .bad=>.bad
  | .ok false=>.nx ρ
  | .ex x=>.ex x
  | .bad=>.bad
mutual
noncomputable def asg:S→List Nat
 | .set i _=>[i]
 | .unp is _=>is
 | .ifs _ a b=>asgs a++asgs b
 | .for tg _ _ _ b=>tg++asgs b
 | .pop i _=>[i]
 | .eachRvs t _=>[t]
 | .eachClr t _=>[t]
 | .whl _ _ b=>asgs b
 | _=>[]
noncomputable def asgs:List S→List Nat
 | []=>[]
 | s::r=>asg s++asgs r
end
noncomputable def noBor:Kd→Bool
 | .bor=>false
 | _=>true
noncomputable def aK (ρ:Env) (k:Kd):Env:=match k with
 | .sto is=>ρ.mapIdx fun j e=>if is.contains j=true then (match e with | some (d,_)=>some (d,false) | none=>none) else e
 | _=>ρ
noncomputable def rest (ρ ρl ρ':Env) (ws:List Nat):Env:=ρ'.mapIdx fun j e =>
 if ws.contains j=true then (match e with
  | some (d,true)=>some (d,true)
  | some (d,false)=>if d.imm=true then some (d,true) else none
  | none=>none)
 else (match ρl[j]? with
  | some (some (_,false))=>(match ρ[j]? with | some x=>x | none=>none)
  | _=>(match e with
   | some (d,true)=>some (d,true)
   | _=>none))
noncomputable def restO (ρ ρl:Env) (ws:List Nat):Out→Out
 | .nx ρ'=>.nx (rest ρ ρl ρ' ws)
 | .bk ρ'=>.bk (rest ρ ρl ρ' ws)
 | .ct ρ'=>.ct (rest ρ ρl ρ' ws)
 | .rt d=>.rt d
 | .ex x=>.ex x
 | .bad=>.bad
noncomputable def retK (d:D):Kd→Out
 | .sto _=>.rt d
 | .old=>.bad
 | .bor=>.bad
noncomputable def fe:List D→Option (List (List D))
 | []=>some []
 | .lst l::r=>(match fe r with
  | some ls=>if immL l=true then some (l::ls) else none
  | none=>none)
 | _::_=>none
noncomputable def seqD:D→Kd→Option (List D)
 | .tup l,_=>some l
 | .lst l,.sto []=>some l
 | _,_=>none
noncomputable def bT (tg:List Nat) (one:Bool) (f:Env→Out) (ρ:Env) (d:D):Out:=match bv ρ tg one d .old with
 | none=>.bad
 | some ρ1=>f ρ1
mutual
noncomputable def runS (M:Tab):S→Env→Out
 | .set i e,ρ=>ofR (runE M e ρ) fun (d,k)=>ofO (bP ρ i d k)
 | .unp is e,ρ=>ofR (runE M e ρ) fun (d,k)=>match d,k with
  | .tup ds,.sto js=>if ds.length=is.length∧is.Nodup∧(∀ i∈is,i < ρ.length) then .nx ((is.zip ds).foldl (fun t p=>t.set p.1 (some (p.2,true))) (js.foldl (fun t j=>t.set j none) ρ)) else .bad
  | _,_=>.bad
 | .ret e,ρ=>ofR (runE M e ρ) fun (d,k)=>retK d k
 | .ifs c a b,ρ=>ofR (runE M c ρ) fun (x,_)=>ofR (truD x) fun t=>if t=true then aA M a ρ else aA M b ρ
 | .for tg one ik it b,ρ=>ofR (runI M ik it ρ) fun (xs,k)=>if noBor k=false then .bad else restO ρ (aK ρ k) (tg++asgs b) (forL (bT tg one fun ρ1=>aA M b ρ1) xs (aK ρ k))
 | .whl n c b,ρ=>whlL (fun ρ'=>tru1 (runE M c ρ')) (fun ρ'=>aA M b ρ') n ρ
 | .app i e,ρ=>ofR (runE M e ρ) fun (d,k)=>match ownL ρ[i]?,k with
  | some l,.sto js=>if l.length < 1000000∧i∉js then .nx ((js.foldl (fun t j=>t.set j none) ρ).set i (some (.lst (l++[d]),true))) else .bad
  | _,_=>.bad
 | .rvs i,ρ=>match ownL ρ[i]? with
  | some l=>if immL l=true then .nx (ρ.set i (some (.lst l.reverse,true))) else .bad
  | none=>.bad
 | .clr i,ρ=>match ownL ρ[i]? with
  | some _=>.nx (ρ.set i (some (.lst [],true)))
  | none=>.bad
 | .pop i j,ρ=>match ownL ρ[j]? with
  | some l=>(match l.getLast? with
   | some d=>if d.imm=true∧i≠j∧i < ρ.length then .nx ((ρ.set j (some (.lst l.dropLast,true))).set i (some (d,true))) else .bad
   | none=>.bad)
  | none=>.bad
 | .ext i e,ρ=>ofR (runE M e ρ) fun (d,k)=>match ownL ρ[i]?,seqD d k with
  | some l,some m=>if immL m=true∧l.length+m.length≤1000000 then .nx (ρ.set i (some (.lst (l++m),true))) else .bad
  | _,_=>.bad
 | .eachRvs t i,ρ=>match ownL ρ[i]? with
  | some l=>(match fe l with
   | some ls=>if t≠i∧t < ρ.length then .nx ((ρ.set i (some (.lst (ls.map fun l=>.lst l.reverse),true))).set t none) else .bad
   | none=>.bad)
  | none=>.bad
 | .eachClr t i,ρ=>match ownL ρ[i]? with
  | some l=>(match fe l with
   | some ls=>if t≠i∧t < ρ.length then .nx ((ρ.set i (some (.lst (ls.map fun _=>.lst []),true))).set t none) else .bad
   | none=>.bad)
  | none=>.bad
 | .appIx i j e,ρ=>ofR (runE M e ρ) fun (d,_)=>match ownL ρ[i]? with
  | some l=>(match fe l with
   | some ls=>(match ls[j]? with
    | some m=>if d.imm=true∧m.length < 1000000 then .nx (ρ.set i (some (.lst ((ls.set j (m++[d])).map D.lst),true))) else .bad
    | none=>.bad)
   | none=>.bad)
  | none=>.bad
 | .rvsL i,ρ=>match ownL ρ[i]? with
  | some l=>(match fe l with
   | some ls=>.nx (ρ.set i (some (.lst (ls.reverse.map D.lst),true)))
   | none=>.bad)
  | none=>.bad
 | .chg i e,ρ=>ofR (runE M e ρ) fun (d,_)=>match ownL ρ[i]?,d with
  | some l,.int _=>(match fe l with
   | some ls=>if (∀ m∈ls,m.length < 1000)∧ls.length < 1000 then .nx (ρ.set i none) else .bad
   | none=>.bad)
  | _,_=>.bad
 | .put i k v,ρ=>ofR (runE M v ρ) fun (y,_)=>ofR (runE M k ρ) fun (x,_)=>match ρ[i]? with
  | some (some (d,true))=>if y.imm=true then (match j8 d x y with
   | some d'=>.nx (ρ.set i (some (d',true)))
   | none=>.bad) else .bad
  | _=>.bad
 | .fset x e,ρ=>ofR (runE M e ρ) fun (d,k)=>match ownO ρ[(0:Nat)]?,k with
  | some (c,fs),.sto js=>if fs.length < 900∧fs.lookup x=none∧0∉js then .nx ((js.foldl (fun t j=>t.set j none) ρ).set 0 (some (.obj c (fs++[(x,d)]),true))) else .bad
  | _,_=>.bad
 | .expr e,ρ=>ofR (runE M e ρ) fun _=>.nx ρ
 | .shr i j b,ρ=>match ρ[j]? with
  | some (some (d,true))=>(match bv (aK ρ (.sto [j])) [i] true d .old with
   | some ρ2=>(match aA M b ρ2 with
    | .rt x=>.rt x
    | _=>.bad)
   | none=>.bad)
  | _=>.bad
 | .raise,_=>.bad
 | .brk,ρ=>.bk ρ
 | .cnt,ρ=>.ct ρ
 | .pass,ρ=>.nx ρ
noncomputable def aA (M:Tab):List S→Env→Out
 | [],ρ=>.nx ρ
 | s::r,ρ=>(runS M s ρ).bind fun ρ'=>aA M r ρ'
end
theorem rE_nil {M:Tab} {ρ:Env}:runE M (.nil) ρ=(.ok (.non,.sto [])):=rfl
theorem eA {M:Tab} {i} {ρ:Env}:runE M (.var i) ρ=(getV ρ i):=rfl
theorem rE_bl {M:Tab} {b} {ρ:Env}:runE M (.bl b) ρ=(.ok (.bl b,.sto [])):=rfl
theorem rE_bin {M:Tab} {o a b} {ρ:Env}:runE M (.bin o a b) ρ=(do
  let (x,_) ← runE M a ρ
  let (y,_) ← runE M b ρ
  let z ← opD o x y
  pure (z,kdOf z)):=rfl
theorem rE_neg {M:Tab} {a} {ρ:Env}:runE M (.neg a) ρ=(do
  let (x,_) ← runE M a ρ
  match x with
  | .int i=>pure (.int (-i),.sto [])
  | _=>.bad):=rfl
theorem rE_cmp {M:Tab} {o a b} {ρ:Env}:runE M (.cmp o a b) ρ=(do
  let (x,_) ← runE M a ρ
  let (y,_) ← runE M b ρ
  let z ← cmpD o x y
  pure (.bl z,.sto [])):=rfl
theorem rE_not {M:Tab} {a} {ρ:Env}:runE M (.not a) ρ=(do
  let (x,_) ← runE M a ρ
  match x with
  | .bl c=>pure (.bl (!c),.sto [])
  | _=>.bad):=rfl
theorem rE_and {M:Tab} {a b} {ρ:Env}:runE M (.and a b) ρ=(do
  let (x,_) ← runE M a ρ
  match x with
  | .bl true=>runE M b ρ
  | .bl false=>pure (.bl false,.sto [])
  | _=>.bad):=rfl
theorem rE_or {M:Tab} {a b} {ρ:Env}:runE M (.or a b) ρ=(do
  let (x,_) ← runE M a ρ
  match x with
  | .bl true=>pure (.bl true,.sto [])
  | .bl false=>runE M b ρ
  | _=>.bad):=rfl
theorem rE_call {M:Tab} {f as} {ρ:Env}:runE M (.call f as) ρ=(do
  let (ds,_) ← bY M as ρ
  let r ← M.fn f ds
  pure (r,.sto [])):=rfl
theorem rE_make {M:Tab} {f as} {ρ:Env}:runE M (.make f as) ρ=(do
  let (ds,_) ← bY M as ρ
  let r ← M.new f ds
  pure (r,.sto [])):=rfl
theorem rE_meth {M:Tab} {f m o as} {ρ:Env}:runE M (.meth f m o as) ρ=(do
  let (x,_) ← runE M o ρ
  let (ds,_) ← bY M as ρ
  match x with
  | .obj _ fs=>if fs.lookup m=none then (do
   let r ← M.fn f (x::ds)
   pure (r,.sto [])) else .bad
  | _=>.bad):=rfl
theorem rE_bi {M:Tab} {b as} {ρ:Env}:runE M (.bi b as) ρ=(do
  let (ds,_) ← bY M as ρ
  let r ← biD b ds
  pure (r,kdOf r)):=rfl
theorem jP {M:Tab} {o k} {ρ:Env}:runE M (.get1 o k) ρ=(do
  let (x,_) ← runE M o ρ
  let (y,_) ← runE M k ρ
  match da x y with
  | some r=>pure (r.getD .non,immK (r.getD .non))
  | none=>.bad):=rfl
theorem rE_get2 {M:Tab} {o k z} {ρ:Env}:runE M (.get2 o k z) ρ=(do
  let (x,_) ← runE M o ρ
  let (y,_) ← runE M k ρ
  let (w,_) ← runE M z ρ
  match da x y with
  | some r=>pure (r.getD w,immK (r.getD w))
  | none=>.bad):=rfl
theorem rE_fld {M:Tab} {o x} {ρ:Env}:runE M (.fld o x) ρ=(do
  let (v,k) ← runE M o ρ
  match v with
  | .obj _ fs=>match fs.lookup x with
   | some d=>pure (d,dG d k)
   | none=>.bad
  | _=>.bad):=rfl
theorem rE_ix {M:Tab} {a i} {ρ:Env}:runE M (.ix a i) ρ=(do
  let (x,k) ← runE M a ρ
  let (y,_) ← runE M i ρ
  let d ← ixD x y
  pure (d,dG d k)):=rfl
theorem rE_dix {M:Tab} {a i} {ρ:Env}:runE M (.dix a i) ρ=(do
  let (x,_) ← runE M a ρ
  let (y,_) ← runE M i ρ
  match da x y with
  | some (some d)=>pure (d,immK d)
  | _=>.bad):=rfl
theorem rE_sl {M:Tab} {a lo hi} {ρ:Env}:runE M (.sl a lo hi) ρ=(do
  let (x,_) ← runE M a ρ
  let (l,_) ← runE M lo ρ
  let (h,_) ← runE M hi ρ
  slD x (optI lo l) (optI hi h)):=rfl
theorem rE_tup {M:Tab} {as} {ρ:Env}:runE M (.tup as) ρ=(do
  let (ds,k) ← bY M as ρ
  if ds.length≤1000000 then pure (.tup ds,k) else .bad):=rfl
theorem rE_lst {M:Tab} {as} {ρ:Env}:runE M (.lst as) ρ=(do
  let (ds,k) ← bY M as ρ
  if ds.length≤1000000 then pure (.lst ds,dispK k) else .bad):=rfl
theorem rE_dnew {M:Tab} {t} {ρ:Env}:runE M (.dnew t) ρ=(.ok (if t=true then .dT [] else .dK [],.sto [])):=rfl
theorem rE_comp {M:Tab} {e tg one ik it c} {ρ:Env}:runE M (.comp e tg one ik it c) ρ=(do
  let (xs,_) ← runI M ik it ρ
  if 1000000 < xs.length then .bad else do
   let (ys,b) ← ca (fq ρ tg one (fun ρ1=>tru1 (runE M c ρ1)) (fun ρ1=>runE M e ρ1)) xs
   pure (.lst ys,if b=true then .sto [] else .bor)):=rfl
theorem h9 {M:Tab} {ρ:Env}:bY M [] ρ=(.ok ([],.sto [])):=rfl
theorem eh {M:Tab} {a r} {ρ:Env}:bY M (a::r) ρ=(do
  let (d,k) ← runE M a ρ
  let (ds,k') ← bY M r ρ
  pure (d::ds,ff k k')):=rfl
theorem rS_set {M:Tab} {i e} {ρ:Env}:runS M (.set i e) ρ=(ofR (runE M e ρ) fun (d,k)=>ofO (bP ρ i d k)):=rfl
theorem rS_unp {M:Tab} {is e} {ρ:Env}:runS M (.unp is e) ρ=(ofR (runE M e ρ) fun (d,k)=>match d,k with
  | .tup ds,.sto js=>if ds.length=is.length∧is.Nodup∧(∀ i∈is,i < ρ.length) then .nx ((is.zip ds).foldl (fun t p=>t.set p.1 (some (p.2,true))) (js.foldl (fun t j=>t.set j none) ρ)) else .bad
  | _,_=>.bad):=rfl
theorem rS_ret {M:Tab} {e} {ρ:Env}:runS M (.ret e) ρ=(ofR (runE M e ρ) fun (d,k)=>retK d k):=rfl
theorem rS_ifs {M:Tab} {c a b} {ρ:Env}:runS M (.ifs c a b) ρ=(ofR (runE M c ρ) fun (x,_)=>ofR (truD x) fun t=>if t=true then aA M a ρ else aA M b ρ):=rfl
theorem rS_for {M:Tab} {tg one ik it b} {ρ:Env}:runS M (.for tg one ik it b) ρ=(ofR (runI M ik it ρ) fun (xs,k)=>if noBor k=false then .bad else restO ρ (aK ρ k) (tg++asgs b) (forL (bT tg one fun ρ1=>aA M b ρ1) xs (aK ρ k))):=rfl
theorem rS_whl {M:Tab} {n c b} {ρ:Env}:runS M (.whl n c b) ρ=(whlL (fun ρ'=>tru1 (runE M c ρ')) (fun ρ'=>aA M b ρ') n ρ):=rfl
theorem rS_app {M:Tab} {i e} {ρ:Env}:runS M (.app i e) ρ=(ofR (runE M e ρ) fun (d,k)=>match ownL ρ[i]?,k with
  | some l,.sto js=>if l.length < 1000000∧i∉js then .nx ((js.foldl (fun t j=>t.set j none) ρ).set i (some (.lst (l++[d]),true))) else .bad
  | _,_=>.bad):=rfl
theorem rS_rvs {M:Tab} {i} {ρ:Env}:runS M (.rvs i) ρ=(match ownL ρ[i]? with
  | some l=>if immL l=true then .nx (ρ.set i (some (.lst l.reverse,true))) else .bad
  | none=>.bad):=rfl
theorem rS_rvsL {M:Tab} {i} {ρ:Env}:runS M (.rvsL i) ρ=(match ownL ρ[i]? with
  | some l=>(match fe l with
   | some ls=>.nx (ρ.set i (some (.lst (ls.reverse.map D.lst),true)))
   | none=>.bad)
  | none=>.bad):=rfl
theorem rS_chg {M:Tab} {i e} {ρ:Env}:runS M (.chg i e) ρ=(ofR (runE M e ρ) fun (d,_)=>match ownL ρ[i]?,d with
  | some l,.int _=>(match fe l with
   | some ls=>if (∀ m∈ls,m.length < 1000)∧ls.length < 1000 then .nx (ρ.set i none) else .bad
   | none=>.bad)
  | _,_=>.bad):=rfl
theorem rS_put {M:Tab} {i k v} {ρ:Env}:runS M (.put i k v) ρ=(ofR (runE M v ρ) fun (y,_)=>ofR (runE M k ρ) fun (x,_)=>match ρ[i]? with
  | some (some (d,true))=>if y.imm=true then (match j8 d x y with
   | some d'=>.nx (ρ.set i (some (d',true)))
   | none=>.bad) else .bad
  | _=>.bad):=rfl
theorem rS_fset {M:Tab} {x e} {ρ:Env}:runS M (.fset x e) ρ=(ofR (runE M e ρ) fun (d,k)=>match ownO ρ[(0:Nat)]?,k with
  | some (c,fs),.sto js=>if fs.length < 900∧fs.lookup x=none∧0∉js then .nx ((js.foldl (fun t j=>t.set j none) ρ).set 0 (some (.obj c (fs++[(x,d)]),true))) else .bad
  | _,_=>.bad):=rfl
theorem rS_expr {M:Tab} {e} {ρ:Env}:runS M (.expr e) ρ=(ofR (runE M e ρ) fun _=>.nx ρ):=rfl
theorem rS_raise {M:Tab} {ρ:Env}:runS M (.raise) ρ=(.bad):=rfl
theorem rSs_0 {M:Tab} {ρ:Env}:aA M [] ρ=(.nx ρ):=rfl
theorem iU {M:Tab} {s r} {ρ:Env}:aA M (s::r) ρ=((runS M s ρ).bind fun ρ'=>aA M r ρ'):=rfl
theorem rI_1 {M:Tab} {ik:Itk} {a r} {ρ:Env}:runI M ik (a::r) ρ=(do
  let (d,k) ← runE M a ρ
  let (ds,k') ← bY M r ρ
  match dU ik (d::ds) with
  | none=>.bad
  | some xs=>pure (xs,match ik with | .each=>k | .range=>.sto [] | .enum=>k | .keys=>k | .zip=>ff k k')):=rfl
structure Fn where
 par:Nat
 slots:Nat
 body:List S
noncomputable def Fn.run (f:Fn) (M:Tab) (ds:List D):R D:=if ds.length=f.par∧f.par≤f.slots then (match aA M f.body (ds.map (fun d=>some (d,false))++List.replicate (f.slots - f.par) none) with
 | .rt d=>.ok d
 | .nx _=>.ok .non
 | .ex x=>.ex x
 | _=>.bad) else .bad
noncomputable def Fn.init (f:Fn) (M:Tab) (c:Nat) (ds:List D):R D:=if ds.length+1=f.par∧f.par≤f.slots then (match aA M f.body (some (.obj c [],true)::(ds.map (fun d=>some (d,false))++List.replicate (f.slots - f.par) none)) with
 | .nx ρ=>(match ρ[(0:Nat)]? with | some (some (d,true))=>.ok d | _=>.bad)
 | .ex x=>.ex x
 | _=>.bad) else .bad
end Vi
namespace Vi
open PySem L2
inductive TC (H:Hp) (Q:List V→List Addr→Prop) (v:V) (fp:List Addr):Prop
 | mk (a:Addr) (vs:List V) (e:v=.ref a) (ha:H a=some (.tup vs)) (r:Q vs fp)
inductive SC (H:Hp) (Q:List V→List Addr→Prop) (v:V) (fp:List Addr):Prop
 | mk (a:Addr) (vs:List V) (f:List Addr) (e:v=.ref a) (ef:fp=a::f) (r:Q vs f) (h:H a=some (.lst vs)∨∃ o,H a=some (.frz o (.lst vs)))
inductive MC (H:Hp) (ks:List Key) (Q:List V→List Addr→Prop) (v:V) (fp:List Addr):Prop
 | mk (a:Addr) (f:List Addr) (kvs:List (Key × V)) (e:v=.ref a) (ef:fp=a::f) (ha:Rd H a (.dK kvs)) (hk:ks=kvs.map (·.1)) (r:Q (kvs.map (·.2)) f)
inductive UC (H:Hp) (ks:List (List Key)) (Q:List V→List Addr→Prop) (v:V) (fp:List Addr):Prop
 | mk (a:Addr) (f:List Addr) (kvs:List (List Key × V)) (e:v=.ref a) (ef:fp=a::f) (ha:H a=some (.dT kvs)) (hk:ks=kvs.map (·.1)) (r:Q (kvs.map (·.2)) f)
inductive OC (H:Hp) (C:Addr) (ks:List Str) (Q:List V→List Addr→Prop) (v:V) (fp:List Addr):Prop
 | mk (a dx:Addr) (f:List Addr) (gs:List (Str × V)) (e:v=.ref a) (ef:fp=a::dx::f) (ha:H a=some (.ins C dx gs)) (hd:H dx=some (.own a)) (hn:ks=gs.map (·.1)) (r:Q (gs.map (·.2)) f)
inductive LC (P:V→List Addr→Prop) (Q:List V→List Addr→Prop) (vs:List V) (fp:List Addr):Prop
 | mk (v:V) (vr:List V) (f g:List Addr) (e:vs=v::vr) (ef:fp=f++g) (h1:P v f) (h2:Q vr g)
mutual
noncomputable def Rep (cl:Nat→Addr) (H:Hp):D→V→List Addr→Prop
 | .non,v,fp=>v=.non∧fp=[]
 | .bl b,v,fp=>v=.bl b∧fp=[]
 | .int i,v,fp=>v=.int i∧fp=[]
 | .str x,v,fp=>v=.str x∧fp=[]
 | .tup l,v,fp=>TC H (RepL cl H l) v fp
 | .lst l,v,fp=>SC H (RepL cl H l) v fp
 | .dK l,v,fp=>MC H (l.map (·.1)) (RepM cl H l) v fp
 | .dT l,v,fp=>UC H (l.map (·.1)) (RepT cl H l) v fp
 | .obj c fs,v,fp=>OC H (cl c) (fs.map (·.1)) (RepF cl H fs) v fp
noncomputable def RepL (cl:Nat→Addr) (H:Hp):List D→List V→List Addr→Prop
 | [],vs,fp=>vs=[]∧fp=[]
 | d::r,vs,fp=>LC (Rep cl H d) (RepL cl H r) vs fp
noncomputable def RepM (cl:Nat→Addr) (H:Hp):List (Key × D)→List V→List Addr→Prop
 | [],vs,fp=>vs=[]∧fp=[]
 | (_,d)::r,vs,fp=>LC (Rep cl H d) (RepM cl H r) vs fp
noncomputable def RepT (cl:Nat→Addr) (H:Hp):List (List Key × D)→List V→List Addr→Prop
 | [],vs,fp=>vs=[]∧fp=[]
 | (_,d)::r,vs,fp=>LC (Rep cl H d) (RepT cl H r) vs fp
noncomputable def RepF (cl:Nat→Addr) (H:Hp):List (Str × D)→List V→List Addr→Prop
 | [],vs,fp=>vs=[]∧fp=[]
 | (_,d)::r,vs,fp=>LC (Rep cl H d) (RepF cl H r) vs fp
end
structure Keep (fp:List Addr) (H H':Hp):Prop where
 at_:∀ a∈fp,H' a=H a
 tup:∀ a vs,H a=some (.tup vs)→H' a=some (.tup vs)
noncomputable def Like (x y:Option HO):Prop:=y=x∨∃ o kvs,(x=some (.dK kvs)∧y=some (.frz o (.dK kvs)))∨(x=some (.frz o (.dK kvs))∧y=some (.dK kvs))
theorem Like.keep {x y:Option HO} {u:HO} (h:Like x y) (hx:x=some u) (n1:∀ kvs,u ≠ .dK kvs) (n2:∀ o v,u ≠ .frz o v):y=some u:=by
 rcases h with h | ⟨o,kvs,⟨h,_⟩ | ⟨h,_⟩⟩
 ·rw [h,hx]
 ·rw [hx] at h; exact absurd (Option.some.inj h) (n1 kvs)
 ·rw [hx] at h; exact absurd (Option.some.inj h) (n2 o _)
theorem Like.lst {H H':Hp} {a:Addr} {vs:List V} (h:Like (H a) (H' a)) (hx:H a=some (.lst vs)∨∃ o,H a=some (.frz o (.lst vs))):H' a=some (.lst vs)∨∃ o,H' a=some (.frz o (.lst vs)):=by
 rcases h with h | ⟨o,kvs,⟨h,_⟩ | ⟨h,_⟩⟩
 ·rw [h]; exact hx
 ·rw [h] at hx; rcases hx with z | ⟨_,z⟩ <;> (injection z with z; injection z)
 ·rw [h] at hx; rcases hx with z | ⟨_,z⟩ <;> cases z
theorem Like.dK {H H':Hp} {a:Addr} {kvs:List (Key × V)} (h:Like (H a) (H' a)) (hx:Rd H a (.dK kvs)):Rd H' a (.dK kvs):=by
 unfold Rd at hx ⊢
 rcases h with h | ⟨o,ws,⟨h,h'⟩ | ⟨h,h'⟩⟩
 ·rw [h]; exact hx
 ·rw [h] at hx
  rcases hx with z | ⟨_,z⟩
  ·(injection z with z; injection z with z; subst z); exact .inr ⟨o,h'⟩
  ·(injection z with z; injection z)
 ·rw [h] at hx
  rcases hx with z | ⟨_,z⟩
  ·(injection z with z; injection z)
  ·cases z; exact .inl h'
structure kr (fp:List Addr) (H H':Hp):Prop where
 at_:∀ a∈fp,Like (H a) (H' a)
 tup:∀ a vs,H a=some (.tup vs)→H' a=some (.tup vs)
theorem kr.sub {fp g:List Addr} {H H':Hp} (k:kr fp H H') (h:∀ a∈g,a∈fp):kr g H H':=⟨fun a ha=>k.at_ a (h a ha),k.tup⟩
theorem Keep.l {fp:List Addr} {H H':Hp} (k:Keep fp H H'):kr fp H H':=⟨fun a ha=>.inl (k.at_ a ha),k.tup⟩
mutual
theorem Rep.keepL {cl:Nat→Addr} {H H':Hp}:∀ {d:D} {v:V} {fp:List Addr},Rep cl H d v fp→kr fp H H'→Rep cl H' d v fp
 | .non,_,_,h,_=>h
 | .bl _,_,_,h,_=>h
 | .int _,_,_,h,_=>h
 | .str _,_,_,h,_=>h
 | .tup l,v,fp,h,k=>by
  unfold Rep at h ⊢
  refine zz fun P_ k_=>?_
  obtain ⟨a,vs,e,ha,r⟩:=h
  refine k_ ?_
  exact ⟨a,vs,e,k.tup a vs ha,RepL.keepL r k⟩
 | .lst l,v,fp,h,k=>by
  unfold Rep at h ⊢
  refine zz fun P_ k_=>?_
  obtain ⟨a,vs,f,e,ef,r,h⟩:=h
  refine k_ ?_
  subst ef
  refine ⟨a,vs,f,e,rfl,RepL.keepL r (k.sub fun b hb=>List.mem_cons_of_mem _ hb), ?_⟩
  exact (k.at_ a List.mem_cons_self).lst h
 | .dK l,v,fp,h,k=>by
  unfold Rep at h ⊢
  refine zz fun P_ k_=>?_
  obtain ⟨a,f,kvs,e,ef,ha,hk,r⟩:=h
  refine k_ ?_
  subst ef
  exact ⟨a,f,kvs,e,rfl,(k.at_ a List.mem_cons_self).dK ha,hk,RepM.keepL r (k.sub fun b hb=>List.mem_cons_of_mem _ hb)⟩
 | .dT l,v,fp,h,k=>by
  unfold Rep at h ⊢
  refine zz fun P_ k_=>?_
  obtain ⟨a,f,kvs,e,ef,ha,hk,r⟩:=h
  refine k_ ?_
  subst ef
  exact ⟨a,f,kvs,e,rfl,(k.at_ a List.mem_cons_self).keep ha (fun _ z=>nomatch z) (fun _ _ z=>nomatch z),hk,RepT.keepL r (k.sub fun b hb=>List.mem_cons_of_mem _ hb)⟩
 | .obj c fs,v,fp,h,k=>by
  unfold Rep at h ⊢
  refine zz fun P_ k_=>?_
  obtain ⟨a,dx,f,gs,e,ef,ha,hd,hn,r⟩:=h
  refine k_ ?_
  subst ef
  exact ⟨a,dx,f,gs,e,rfl,(k.at_ a List.mem_cons_self).keep ha (fun _ z=>nomatch z) (fun _ _ z=>nomatch z),(k.at_ dx (List.mem_cons_of_mem _ List.mem_cons_self)).keep hd (fun _ z=>nomatch z) (fun _ _ z=>nomatch z),hn,RepF.keepL r (k.sub fun b hb=>List.mem_cons_of_mem _ (List.mem_cons_of_mem _ hb))⟩
theorem RepL.keepL {cl:Nat→Addr} {H H':Hp}:∀ {l:List D} {vs:List V} {fp:List Addr},RepL cl H l vs fp→kr fp H H'→RepL cl H' l vs fp
 | [],_,_,h,_=>h
 | d::r,vs,fp,h,k=>by
  unfold RepL at h ⊢
  refine zz fun P_ k_=>?_
  obtain ⟨v,vr,f,g,e,ef,h1,h2⟩:=h
  refine k_ ?_
  subst ef
  exact ⟨v,vr,f,g,e,rfl,Rep.keepL h1 (k.sub fun b hb=>List.mem_append_left _ hb),RepL.keepL h2 (k.sub fun b hb=>List.mem_append_right _ hb)⟩
theorem RepM.keepL {cl:Nat→Addr} {H H':Hp}:∀ {l:List (Key × D)} {vs:List V} {fp:List Addr},RepM cl H l vs fp→kr fp H H'→RepM cl H' l vs fp
 | [],_,_,h,_=>h
 | (q,d)::r,vs,fp,h,k=>by
  unfold RepM at h ⊢
  obtain ⟨v,vr,f,g,e,ef,h1,h2⟩:=h
  subst ef
  exact ⟨v,vr,f,g,e,rfl,Rep.keepL h1 (k.sub fun b hb=>List.mem_append_left _ hb),RepM.keepL h2 (k.sub fun b hb=>List.mem_append_right _ hb)⟩
theorem RepT.keepL {cl:Nat→Addr} {H H':Hp}:∀ {l:List (List Key × D)} {vs:List V} {fp:List Addr},RepT cl H l vs fp→kr fp H H'→RepT cl H' l vs fp
 | [],_,_,h,_=>h
 | (q,d)::r,vs,fp,h,k=>by
  unfold RepT at h ⊢
  refine zz fun P_ k_=>?_
  obtain ⟨v,vr,f,g,e,ef,h1,h2⟩:=h
  refine k_ ?_
  subst ef
  exact ⟨v,vr,f,g,e,rfl,Rep.keepL h1 (k.sub fun b hb=>List.mem_append_left _ hb),RepT.keepL h2 (k.sub fun b hb=>List.mem_append_right _ hb)⟩
theorem RepF.keepL {cl:Nat→Addr} {H H':Hp}:∀ {l:List (Str × D)} {vs:List V} {fp:List Addr},RepF cl H l vs fp→kr fp H H'→RepF cl H' l vs fp
 | [],_,_,h,_=>h
 | (q,d)::r,vs,fp,h,k=>by
  unfold RepF at h ⊢
  obtain ⟨v,vr,f,g,e,ef,h1,h2⟩:=h
  subst ef
  exact ⟨v,vr,f,g,e,rfl,Rep.keepL h1 (k.sub fun b hb=>List.mem_append_left _ hb),RepF.keepL h2 (k.sub fun b hb=>List.mem_append_right _ hb)⟩
end
theorem Rep.keep {cl:Nat→Addr} {H H':Hp} {d:D} {v:V} {fp:List Addr} (h:Rep cl H d v fp) (k:Keep fp H H'):Rep cl H' d v fp:=h.keepL k.l
theorem RepL.keep {cl:Nat→Addr} {H H':Hp} {l:List D} {vs:List V} {fp:List Addr} (h:RepL cl H l vs fp) (k:Keep fp H H'):RepL cl H' l vs fp:=h.keepL k.l
noncomputable def Own (x:Option HO):Prop:=x≠none∧∀ vs,x≠some (.tup vs)
theorem Own.of {x:Option HO} {o:HO} (h:x=some o) (n:∀ vs,o ≠ .tup vs):Own x:=⟨fun z=>(nomatch h.symm.trans z),fun vs z=>n vs (Option.some.inj (h.symm.trans z))⟩
theorem Own.nil {H:Hp} {fp:List Addr} (h:fp=[]):∀ a∈fp,Own (H a):=fun a ha=>absurd (h ▸ ha) List.not_mem_nil
theorem Own.cons {H:Hp} {a:Addr} {fp g:List Addr} (e:fp=a::g) (h:Own (H a)) (k:∀ b∈g,Own (H b)):∀ b∈fp,Own (H b):=e ▸ List.forall_mem_cons.mpr ⟨h,k⟩
theorem Own.app {H:Hp} {fp f g:List Addr} (e:fp=f++g) (h:∀ b∈f,Own (H b)) (k:∀ b∈g,Own (H b)):∀ b∈fp,Own (H b):=e ▸ List.forall_mem_append.mpr ⟨h,k⟩
theorem Own.two {α:Type} {x:Option HO} {y:HO} {f:α→HO} (h:x=some y∨∃ o,x=some (f o)) (n:∀ vs,y ≠ .tup vs) (m:∀ o vs,f o ≠ .tup vs):Own x:=h.elim (fun z=>Own.of z n) fun ⟨o,z⟩=>Own.of z (m o)
mutual
theorem Rep.own {cl:Nat→Addr} {H:Hp}:∀ {d:D} {v:V} {fp:List Addr},Rep cl H d v fp→∀ a∈fp,Own (H a)
 | .non,_,_,h=>Own.nil h.2
 | .bl _,_,_,h=>Own.nil h.2
 | .int _,_,_,h=>Own.nil h.2
 | .str _,_,_,h=>Own.nil h.2
 | .tup l,v,fp,h=>by
  refine zz fun P_ k_=>?_
  obtain ⟨a,vs,e,ha,r⟩:=h
  refine k_ ?_
  exact RepL.own r
 | .lst l,v,fp,h=>by
  refine zz fun P_ k_=>?_
  obtain ⟨a,vs,f,e,ef,r,h⟩:=h
  refine k_ ?_
  exact Own.cons ef (Own.two h (fun _ z=>nomatch z) (fun _ _ z=>nomatch z)) (RepL.own r)
 | .dK l,v,fp,h=>by
  refine zz fun P_ k_=>?_
  obtain ⟨a,f,kvs,e,ef,ha,hk,r⟩:=h
  refine k_ ?_
  exact Own.cons ef (Own.two ha (fun _ z=>nomatch z) (fun _ _ z=>nomatch z)) (RepM.own r)
 | .dT l,v,fp,h=>by
  refine zz fun P_ k_=>?_
  obtain ⟨a,f,kvs,e,ef,ha,hk,r⟩:=h
  refine k_ ?_
  exact Own.cons ef (Own.of ha (fun _ z=>nomatch z)) (RepT.own r)
 | .obj c fs,v,fp,h=>by
  refine zz fun P_ k_=>?_
  obtain ⟨a,dx,f,gs,e,ef,ha,hd,hn,r⟩:=h
  refine k_ ?_
  exact Own.cons ef (Own.of ha (fun _ z=>nomatch z)) (Own.cons rfl (Own.of hd (fun _ z=>nomatch z)) (RepF.own r))
theorem RepL.own {cl:Nat→Addr} {H:Hp}:∀ {l:List D} {vs:List V} {fp:List Addr},RepL cl H l vs fp→∀ a∈fp,Own (H a)
 | [],_,_,h=>Own.nil (by unfold RepL at h; exact h.2)
 | d::r,vs,fp,h=>by
  refine zz fun P_ k_=>?_
  obtain ⟨v,vr,f,g,e,ef,h1,h2⟩:=h
  refine k_ ?_
  exact Own.app ef (Rep.own h1) (RepL.own h2)
theorem RepM.own {cl:Nat→Addr} {H:Hp}:∀ {l:List (Key × D)} {vs:List V} {fp:List Addr},RepM cl H l vs fp→∀ a∈fp,Own (H a)
 | [],_,_,h=>Own.nil (by unfold RepM at h; exact h.2)
 | (q,d)::r,vs,fp,h=>by
  refine zz fun P_ k_=>?_
  obtain ⟨v,vr,f,g,e,ef,h1,h2⟩:=h
  refine k_ ?_
  exact Own.app ef (Rep.own h1) (RepM.own h2)
theorem RepT.own {cl:Nat→Addr} {H:Hp}:∀ {l:List (List Key × D)} {vs:List V} {fp:List Addr},RepT cl H l vs fp→∀ a∈fp,Own (H a)
 | [],_,_,h=>Own.nil (by unfold RepT at h; exact h.2)
 | (q,d)::r,vs,fp,h=>by
  refine zz fun P_ k_=>?_
  obtain ⟨v,vr,f,g,e,ef,h1,h2⟩:=h
  refine k_ ?_
  exact Own.app ef (Rep.own h1) (RepT.own h2)
theorem RepF.own {cl:Nat→Addr} {H:Hp}:∀ {l:List (Str × D)} {vs:List V} {fp:List Addr},RepF cl H l vs fp→∀ a∈fp,Own (H a)
 | [],_,_,h=>Own.nil (by unfold RepF at h; exact h.2)
 | (q,d)::r,vs,fp,h=>by
  refine zz fun P_ k_=>?_
  obtain ⟨v,vr,f,g,e,ef,h1,h2⟩:=h
  refine k_ ?_
  exact Own.app ef (Rep.own h1) (RepF.own h2)
end
theorem Rep.dom {cl:Nat→Addr} {H:Hp} {d:D} {v:V} {fp:List Addr} (h:Rep cl H d v fp):∀ a∈fp,H a≠none:=fun a ha=>(h.own a ha).1
theorem Rep.notup {cl:Nat→Addr} {H:Hp} {d:D} {v:V} {fp:List Addr} (h:Rep cl H d v fp):∀ a∈fp,∀ vs,H a≠some (.tup vs):=fun a ha=>(h.own a ha).2
theorem RepL.dom {cl:Nat→Addr} {H:Hp} {d:List D} {v:List V} {fp:List Addr} (h:RepL cl H d v fp):∀ a∈fp,H a≠none:=fun a ha=>(h.own a ha).1
theorem RepL.notup {cl:Nat→Addr} {H:Hp} {d:List D} {v:List V} {fp:List Addr} (h:RepL cl H d v fp):∀ a∈fp,∀ vs,H a≠some (.tup vs):=fun a ha=>(h.own a ha).2
mutual
theorem Rep.imm {cl:Nat→Addr} {H:Hp}:∀ {d:D} {v:V} {fp:List Addr},Rep cl H d v fp→d.imm=true→fp=[]
 | .non,_,_,h,_=>h.2
 | .bl _,_,_,h,_=>h.2
 | .int _,_,_,h,_=>h.2
 | .str _,_,_,h,_=>h.2
 | .tup l,v,fp,h,k=>by
  obtain ⟨a,vs,e,ha,r⟩:=h
  exact RepL.imm r k
 | .lst _,_,_,_,k=>by simp [D.imm] at k
 | .dK _,_,_,_,k=>by simp [D.imm] at k
 | .dT _,_,_,_,k=>by simp [D.imm] at k
 | .obj _ _,_,_,_,k=>by simp [D.imm] at k
theorem RepL.imm {cl:Nat→Addr} {H:Hp}:∀ {l:List D} {vs:List V} {fp:List Addr},RepL cl H l vs fp→immL l=true→fp=[]
 | [],_,_,h,_=>h.2
 | d::r,vs,fp,h,k=>by
  obtain ⟨v,vr,f,g,e,ef,h1,h2⟩:=h
  have k':d.imm=true∧immL r=true:=by simpa [immL] using k
  rw [ef,Rep.imm h1 k'.1,RepL.imm h2 k'.2]
  rfl
end
theorem Keep.same {fp:List Addr} {H H':Hp} (s:Same H H') (h:∀ a∈fp,H a≠none):Keep fp H H':=⟨fun a ha=>by
 cases q:H a with
 | none=>exact absurd q (h a ha)
 | some o=>exact s a o q,fun a vs e=>s a _ e⟩
theorem Rep.same {cl:Nat→Addr} {H H':Hp} {d:D} {v:V} {fp:List Addr} (h:Rep cl H d v fp) (s:Same H H'):Rep cl H' d v fp:=h.keep (Keep.same s h.dom)
theorem RepL.same {cl:Nat→Addr} {H H':Hp} {d:List D} {v:List V} {fp:List Addr} (h:RepL cl H d v fp) (s:Same H H'):RepL cl H' d v fp:=h.keep (Keep.same s h.dom)
theorem RepL.len {cl:Nat→Addr} {H:Hp}:∀ {l:List D} {vs:List V} {fp:List Addr},RepL cl H l vs fp→vs.length=l.length:=by
 intro x_0
 induction x_0 with
 | nil =>
  intro _ _ h
  unfold RepL at h; rw [h.1]; rfl
 | cons d r ih_ =>
  intro vs fp h
  obtain ⟨v,vr,f,g,e,ef,h1,h2⟩:=h
  rw [e,List.length_cons,List.length_cons,ih_ h2]
theorem Same.new {H:Hp} {a:Addr} {o:HO} (h:H a=none):Same H (upd H a o):=fun b u e=>by
 rw [aj (bq e h)]
 exact e
theorem LC.imp {P:V→List Addr→Prop} {Q Q':List V→List Addr→Prop} {vs:List V} {fp:List Addr} (h:LC P Q vs fp) (q:∀ {vs fp},Q vs fp→Q' vs fp):LC P Q' vs fp:=by
 refine zz fun P_ k_=>?_
 obtain ⟨v,vr,f,g,e,ef,h1,h2⟩:=h
 refine k_ ?_
 exact ⟨v,vr,f,g,e,ef,h1,q h2⟩
theorem RepM.l {cl:Nat→Addr} {H:Hp}:∀ {l:List (Key × D)} {vs:List V} {fp:List Addr},RepM cl H l vs fp↔RepL cl H (l.map (·.2)) vs fp:=by
 intro l
 induction l with
 | nil=>intro vs fp; exact Iff.rfl
 | cons p r ih=>intro vs fp; exact ⟨fun h=>LC.imp h ih.mp,fun h=>LC.imp h ih.mpr⟩
theorem RepT.l {cl:Nat→Addr} {H:Hp}:∀ {l:List (List Key × D)} {vs:List V} {fp:List Addr},RepT cl H l vs fp↔RepL cl H (l.map (·.2)) vs fp:=by
 intro l
 induction l with
 | nil=>intro vs fp; exact Iff.rfl
 | cons p r ih=>intro vs fp; exact ⟨fun h=>LC.imp h ih.mp,fun h=>LC.imp h ih.mpr⟩
theorem RepF.l {cl:Nat→Addr} {H:Hp}:∀ {l:List (Str × D)} {vs:List V} {fp:List Addr},RepF cl H l vs fp↔RepL cl H (l.map (·.2)) vs fp:=by
 intro l
 induction l with
 | nil=>intro vs fp; exact Iff.rfl
 | cons p r ih=>intro vs fp; exact ⟨fun h=>LC.imp h ih.mp,fun h=>LC.imp h ih.mpr⟩
end Vi
namespace Vi
open PySem L2
noncomputable def NF (H:Hp) (a:Addr):Prop:=∀ o u,H a≠some (.frz o u)
theorem NF.same {H H':Hp} {a:Addr} (h:NF H a) (s:Same H H') (d:H a≠none):NF H' a:=fun o u e=>by
 cases q:H a with
 | none=>exact d q
 | some x =>
  have:=s a x q
  rw [e] at this
  (injection this with this; subst this)
  exact h o u q
structure SOK (cl:Nat→Addr) (H0:Hp) (ρ:Env) (F:Nat→List Addr) (σ:St) (H:Hp):Prop where
 same:Same H0 H
 len:σ.length=ρ.length
 rep:∀ (i:Nat) (d:D) (o:Bool),ρ[i]?=some (some (d,o))→∃ v,σ[i]?=some (some v)∧Rep cl H d v (F i)
 own:∀ (i:Nat) (d:D),ρ[i]?=some (some (d,true))→(F i).Nodup∧∀ a∈F i,H0 a=none∧NF H a
 dis:∀ (i j:Nat) (d e:D) (o:Bool),i≠j→ρ[i]?=some (some (d,true))→ρ[j]?=some (some (e,o))→∀ a∈F i,a∉F j
 old:∀ (i:Nat) (d:D),ρ[i]?=some (some (d,false))→∀ a∈F i,H0 a≠none
noncomputable def KOk (ρ:Env) (F:Nat→List Addr) (H H0 H':Hp) (fp:List Addr):Kd→Prop
 | .sto is=>fp.Nodup∧(∀ i∈is,∃ d,ρ[i]?=some (some (d,true)))∧(∀ a∈fp,H a=none∨∃ i∈is,a∈F i)∧∀ a∈fp,NF H' a
 | .old=>∀ a∈fp,H0 a≠none
 | .bor=>True
section
variable {cl:Nat→Addr} {H0 H H':Hp} {ρ:Env} {F:Nat→List Addr} {σ:St}
theorem SOK.step (S:SOK cl H0 ρ F σ H) (s:Same H H'):SOK cl H0 ρ F σ H' :=
 ⟨S.same.trans s,S.len,fun i d o e=>let ⟨v,h1,h2⟩:=S.rep i d o e; ⟨v,h1,h2.same s⟩,fun i d e=>⟨(S.own i d e).1,fun a ha=>⟨((S.own i d e).2 a ha).1,((S.own i d e).2 a ha).2.same s (let ⟨_,_,r⟩:=S.rep i d true e; r.dom a ha)⟩⟩,S.dis,S.old⟩
theorem KOk.nil0 {H1:Hp}:KOk ρ F H H0 H1 [] (.sto []):=⟨List.nodup_nil,fun _ h=>(nomatch h),fun _ h=>(nomatch h),fun _ h=>(nomatch h)⟩
theorem KOk.imm {cl:Nat→Addr} {d:D} {v:V} {fp:List Addr} (r:Rep cl H' d v fp) (h:d.imm=true) {H1:Hp}:KOk ρ F H H0 H1 fp (.sto []):=by
 rw [r.imm h]
 exact KOk.nil0
theorem SOK.dom (S:SOK cl H0 ρ F σ H) {i:Nat} {d:D} {o:Bool} (e:ρ[i]?=some (some (d,o))):∀ a∈F i,H a≠none:=by
 obtain ⟨v,_,r⟩:=S.rep i d o e
 exact r.dom
theorem KOk.comb {H1 H2:Hp} {f g:List Addr} {k1 k2:Kd} (S:SOK cl H0 ρ F σ H) (s:Same H H1) (s2:Same H1 H2) (hf:∀ a∈f,H1 a≠none) (h1:KOk ρ F H H0 H1 f k1) (h2:KOk ρ F H1 H0 H2 g k2):KOk ρ F H H0 H2 (f++g) (ff k1 k2):=by
 cases k1 with
 | old=>exact True.intro
 | bor=>exact True.intro
 | sto a =>
  cases k2 with
  | old=>exact True.intro
  | bor=>exact True.intro
  | sto b =>
   show KOk ρ F H H0 H2 (f++g) (if a.all (fun i=>!b.contains i)=true then .sto (a++b) else .bor)
   by_cases hd:a.all (fun i=>!b.contains i)=true
   ·rw [if_pos hd]
    have hd':∀ i∈a,i∉b:=fun i hi=>by
     have:=List.all_eq_true.mp hd i hi
     simpa using this
    obtain ⟨n1,o1,m1,z1⟩:=h1
    obtain ⟨n2,o2,m2,z2⟩:=h2
    refine ⟨List.nodup_append.mpr ⟨n1,n2,fun x hx y hy e=>?_⟩,fun i hi=>?_,fun x hx=>?_,fun x hx=>(List.mem_append.mp hx).elim (fun z=>(z1 x z).same s2 (hf x z)) (z2 x)⟩
    ·subst e
     rcases m2 x hy with z | ⟨j,hj,zj⟩
     ·exact hf x hx z
     ·obtain ⟨dj,ej⟩:=o2 j hj
      rcases m1 x hx with z | ⟨i,hi,zi⟩
      ·exact S.dom ej x zj z
      ·obtain ⟨di,ei⟩:=o1 i hi
       have hij:i≠j:=fun q=>hd' i hi (q ▸ hj)
       exact S.dis i j di dj true hij ei ej x zi zj
    ·rcases List.mem_append.mp hi with z | z
     ·exact o1 i z
     ·exact o2 i z
    ·rcases List.mem_append.mp hx with z | z
     ·rcases m1 x z with q | ⟨i,hi,q⟩
      ·exact .inl q
      ·exact .inr ⟨i,List.mem_append_left _ hi,q⟩
     ·rcases m2 x z with q | ⟨i,hi,q⟩
      ·exact .inl (s.free q)
      ·exact .inr ⟨i,List.mem_append_right _ hi,q⟩
   ·rw [if_neg hd]
    exact True.intro
theorem cQ {α:Type}:∀ {is:List Nat} {t:List (Option α)} {j:Nat} {x:α},(is.foldl (fun t j=>t.set j none) t)[j]?=some (some x)→t[j]?=some (some x)∧j∉is:=by
 intro x_0
 induction x_0 with
 | nil =>
  intro _ _ _ h
  exact ⟨h,by simp⟩
 | cons i r ih_ =>
  intro t j x h
  obtain ⟨h1,h2⟩:=ih_ h
  by_cases e:i=j
  ·subst e
   rw [List.getElem?_set] at h1
   split at h1
   ·split at h1 <;> simp at h1
   ·exact absurd rfl ‹_›
  ·rw [List.getElem?_set_ne e] at h1
   exact ⟨h1,by simp [h2,Ne.symm e]⟩
theorem e9 {α:Type}:∀ (is:List Nat) (t:List (Option α)),(is.foldl (fun t j=>t.set j none) t).length=t.length:=by
 intro x_0
 induction x_0 with
 | nil =>
  intro _
  exact rfl
 | cons i r ih_ =>
  intro t
  show (r.foldl _ (t.set i none)).length=_
  rw [ih_]
  simp
theorem SOK.drop (S:SOK cl H0 ρ F σ H) (is:List Nat):SOK cl H0 (is.foldl (fun t j=>t.set j none) ρ) F σ H :=
 ⟨S.same,by rw [e9]; exact S.len,fun i d o e=>S.rep i d o (cQ e).1,fun i d e=>S.own i d (cQ e).1,fun i j d e o h a b=>S.dis i j d e o h (cQ a).1 (cQ b).1,fun i d e=>S.old i d (cQ e).1⟩
theorem cK {α:Type} {t:List α} {i j:Nat} {x:α} (hi:i < t.length):(t.set i x)[j]?=if i=j then some x else t[j]?:=by
 rw [List.getElem?_set]
 by_cases e:i=j
 ·subst e
  rw [if_pos rfl,if_pos rfl,if_pos hi]
 ·rw [if_neg e,if_neg e]
theorem SOK.set {d:D} {v:V} {fp:List Addr} {k:Kd} {i:Nat} {ρ':Env} (S:SOK cl H0 ρ F σ H) (s:Same H H') (r:Rep cl H' d v fp) (hk:KOk ρ F H H0 H' fp k) (e:bP ρ i d k=some ρ') :
  ∃ F',SOK cl H0 ρ' F' (σ.set i (some v)) H':=by
 unfold bP at e
 by_cases hi:i < ρ.length
 ·rw [if_pos hi] at e
  have hiσ:i < σ.length:=by rw [S.len]; exact hi
  have S':=S.step s
  refine ⟨fun j=>if j=i then fp else F j, ?_⟩
  cases k with
  | bor=>injection e
  | old =>
   (injection e with e; subst e)
   have look:∀ {j:Nat} {x:D × Bool},(ρ.set i (some (d,false)))[j]?=some (some x)→(j=i∧x=(d,false))∨(j≠i∧ρ[j]?=some (some x)):=fun {j x} h=>by
    rw [cK hi] at h
    by_cases q:i=j
    ·rw [if_pos q] at h; exact .inl ⟨q.symm,by (injection h with h; injection h with h; subst h); rfl⟩
    ·rw [if_neg q] at h; exact .inr ⟨Ne.symm q,h⟩
   refine ⟨S'.same,by simpa using S.len,fun j e o h=>?_,fun j e h=>?_,fun j l e e' o hjl h h'=>?_,fun j e h=>?_⟩
   ·rcases look h with ⟨rfl,q⟩ | ⟨q,h⟩
    ·(injection q with q; subst q)
     exact ⟨v,by rw [cK hiσ,if_pos rfl],by rw [if_pos rfl]; exact r⟩
    ·obtain ⟨w,h1,h2⟩:=S'.rep j e o h
     exact ⟨w,by rw [cK hiσ,if_neg (Ne.symm q)]; exact h1,by rw [if_neg q]; exact h2⟩
   ·rcases look h with ⟨_,q⟩ | ⟨q,h⟩
    ·cases q
    ·simp only [if_neg q]; exact S'.own j e h
   ·rcases look h with ⟨_,q⟩ | ⟨q,hA⟩
    ·cases q
    ·simp only [if_neg q]
     rcases look h' with ⟨q2,q'⟩ | ⟨q',hB⟩
     ·rw [if_pos q2]
      intro a ha hb
      exact hk a hb ((S.own j e hA).2 a ha).1
     ·rw [if_neg q']; exact S.dis j l e e' o hjl hA hB
   ·rcases look h with ⟨rfl,q⟩ | ⟨q,h⟩
    ·rw [if_pos rfl]; exact hk
    ·simp only [if_neg q]; exact S.old j e h
  | sto is =>
   have e:(is.foldl (fun t j=>t.set j none) ρ).set i (some (d,true))=ρ':=Option.some.inj e
   subst e
   have hi':i < (is.foldl (fun t j=>t.set j none) ρ).length:=by rw [e9]; exact hi
   obtain ⟨n1,o1,m1,z1⟩:=hk
   have look:∀ {j:Nat} {x:D × Bool},((is.foldl (fun t j=>t.set j none) ρ).set i (some (d,true)))[j]?=some (some x)→(j=i∧x=(d,true))∨(j≠i∧ρ[j]?=some (some x)∧j∉is):=fun {j x} h=>by
    rw [cK hi'] at h
    by_cases q:i=j
    ·rw [if_pos q] at h; exact .inl ⟨q.symm,by (injection h with h; injection h with h; subst h); rfl⟩
    ·rw [if_neg q] at h; exact .inr ⟨Ne.symm q,cQ h⟩
   have apart:∀ {j:Nat} {e:D} {o:Bool},ρ[j]?=some (some (e,o))→j∉is→∀ a∈fp,a∉F j:=fun {j e o} h hj a ha hb=>by
    rcases m1 a ha with z | ⟨l,hl,z⟩
    ·exact S.dom h a hb z
    ·obtain ⟨dl,el⟩:=o1 l hl
     exact S.dis l j dl e o (fun q=>hj (q ▸ hl)) el h a z hb
   refine ⟨S'.same,by simp only [List.length_set,e9]; exact S.len,fun j e o h=>?_,fun j e h=>?_,fun j l e e' o hjl h h'=>?_,fun j e h=>?_⟩
   ·rcases look h with ⟨rfl,q⟩ | ⟨q,h,_⟩
    ·(injection q with q; subst q)
     exact ⟨v,by rw [cK hiσ,if_pos rfl],by rw [if_pos rfl]; exact r⟩
    ·obtain ⟨w,h1,h2⟩:=S'.rep j e o h
     exact ⟨w,by rw [cK hiσ,if_neg (Ne.symm q)]; exact h1,by rw [if_neg q]; exact h2⟩
   ·rcases look h with ⟨rfl,_⟩ | ⟨q,h,_⟩
    ·rw [if_pos rfl]
     refine ⟨n1,fun a ha=>⟨?_,z1 a ha⟩⟩
     rcases m1 a ha with z | ⟨l,hl,z⟩
     ·exact S.same.free z
     ·obtain ⟨dl,el⟩:=o1 l hl
      exact ((S.own l dl el).2 a z).1
    ·simp only [if_neg q]; exact S'.own j e h
   ·rcases look h with ⟨q1,_⟩ | ⟨q,hA,hj⟩
    ·simp only [if_pos q1]
     rcases look h' with ⟨q2,_⟩ | ⟨q',hB,hl⟩
     ·exact absurd (q1.trans q2.symm) hjl
     ·rw [if_neg q']; exact apart hB hl
    ·simp only [if_neg q]
     rcases look h' with ⟨q2,_⟩ | ⟨q',hB,hl⟩
     ·rw [if_pos q2]; exact fun a ha hb=>apart hA hj a hb ha
     ·rw [if_neg q']; exact S.dis j l e e' o hjl hA hB
   ·rcases look h with ⟨_,q⟩ | ⟨q,h,_⟩
    ·cases q
    ·simp only [if_neg q]; exact S.old j e h
 ·rw [if_neg hi] at e
  injection e
end
inductive tD (cl:Nat→Addr) (ρ:Env) (d:D) (k:Kd) (σ:St) (H:Hp) (Q:VK):Prop
 | mk (H0:Hp) (F:Nat→List Addr) (S:SOK cl H0 ρ F σ H) (q:∀ v H' fp,Same H H'→Rep cl H' d v fp→KOk ρ F H H0 H' fp k→Q v H')
inductive tDs (cl:Nat→Addr) (ρ:Env) (ds:List D) (k:Kd) (σ:St) (H:Hp) (Q:List V→Hp→Prop):Prop
 | mk (H0:Hp) (F:Nat→List Addr) (S:SOK cl H0 ρ F σ H) (q:∀ vs H' fp,Same H H'→RepL cl H' ds vs fp→KOk ρ F H H0 H' fp k→Q vs H')
section
variable {cl:Nat→Addr} {H0 H:Hp} {ρ:Env} {F:Nat→List Addr} {σ:St}
theorem KOk.of_sub {H H1 H2:Hp} {H0:Hp} {fp:List Addr} {k:Kd} (s:Same H H1) (h:KOk ρ F H1 H0 H2 fp k):KOk ρ F H H0 H2 fp k:=by
 cases k with
 | sto is=>exact ⟨h.1,h.2.1,fun a ha=>(h.2.2.1 a ha).elim (fun z=>.inl (s.free z)) .inr,h.2.2.2⟩
 | old=>exact h
 | bor=>exact h
theorem tD2 {d1 d2:D} {k1 k2:Kd} {R:V→V→Hp→Prop} (S:SOK cl H0 ρ F σ H)
  (h:∀ x y H1 H2 f g,Same H H1→Same H1 H2→Rep cl H2 d1 x f→Rep cl H2 d2 y g→(∀ a∈f,H1 a≠none)→KOk ρ F H H0 H1 f k1→KOk ρ F H1 H0 H2 g k2→R x y H2) :
  tD cl ρ d1 k1 σ H fun x H1=>tD cl ρ d2 k2 σ H1 fun y H2=>R x y H2 :=
 ⟨H0,F,S,fun x H1 f s1 r1 q1=>⟨H0,F,S.step s1,fun y H2 g s2 r2 q2=>h x y H1 H2 f g s1 s2 (r1.same s2) r2 r1.dom q1 q2⟩⟩
end
end Vi
namespace Vi
open PySem L2
section
variable {cl:Nat→Addr} {H0 H H':Hp} {ρ ρl ρ':Env} {F F':Nat→List Addr} {σ σ':St}
theorem SOK.mut {i:Nat} {d d':D} {v:V} {fp:List Addr} {is:List Nat} (S:SOK cl H0 ρ F σ H) (e:ρ[i]?=some (some (d,true))) (hv:σ[i]?=some (some v)) (hi:i∉is) (ho:∀ j∈is,∃ d,ρ[j]?=some (some (d,true)))
  (r:Rep cl H' d' v fp) (n:fp.Nodup) (m:∀ a∈fp,a∈F i∨H a=none∨∃ j∈is,a∈F j) (nf:∀ a∈fp,NF H' a) (keep:∀ b,b∉F i→H b≠none→H' b=H b) (tup:∀ a vs,H a=some (.tup vs)→H' a=some (.tup vs)) :
  ∃ F',SOK cl H0 ((is.foldl (fun t j=>t.set j none) ρ).set i (some (d',true))) F' σ H':=by
 have hil:i < ρ.length:=(List.getElem?_eq_some_iff.mp e).1
 have hi':i < (is.foldl (fun t j=>t.set j none) ρ).length:=by rw [e9]; exact hil
 refine ⟨fun j=>if j=i then fp else F j, ?_⟩
 have look:∀ {j:Nat} {x:D × Bool},((is.foldl (fun t j=>t.set j none) ρ).set i (some (d',true)))[j]?=some (some x)→(j=i∧x=(d',true))∨(j≠i∧ρ[j]?=some (some x)∧j∉is):=fun {j x} h=>by
  rw [cK hi'] at h
  by_cases q:i=j
  ·rw [if_pos q] at h; exact .inl ⟨q.symm,by (injection h with h; injection h with h; subst h); rfl⟩
  ·rw [if_neg q] at h; exact .inr ⟨Ne.symm q,cQ h⟩
 have apart:∀ {j:Nat} {x:D} {o:Bool},j≠i→ρ[j]?=some (some (x,o))→j∉is→∀ a∈fp,a∉F j:=fun {j x o} hji h hj a ha hb=>by
  rcases m a ha with z | z | ⟨l,hl,z⟩
  ·exact S.dis i j d x o (Ne.symm hji) e h a z hb
  ·exact S.dom h a hb z
  ·obtain ⟨dl,el⟩:=ho l hl
   exact S.dis l j dl x o (fun q=>hj (q ▸ hl)) el h a z hb
 have stay:∀ {j:Nat} {x:D} {o:Bool},j≠i→ρ[j]?=some (some (x,o))→∀ a∈F j,H' a=H a:=fun {j x o} hji h a ha =>
  keep a (fun z=>S.dis i j d x o (Ne.symm hji) e h a z ha) (S.dom h a ha)
 refine ⟨fun b o h=>?_,by simp only [List.length_set,e9]; exact S.len,fun j x o h=>?_,fun j x h=>?_,fun j l x y o hjl h h'=>?_,fun j x h=>?_⟩
 ·have h1:=S.same b o h
  rw [keep b (fun z=>?_) (by rw [h1]; simp)]
  ·exact h1
  ·have:=((S.own i d e).2 b z).1
   rw [h] at this
   injection this
 ·rcases look h with ⟨q,z⟩ | ⟨q,hA,hj⟩
  ·(injection z with z; subst z)
   rw [q]
   exact ⟨v,hv,by rw [if_pos rfl]; exact r⟩
  ·obtain ⟨w,h1,h2⟩:=S.rep j x o hA
   exact ⟨w,h1,by rw [if_neg q]; exact h2.keep ⟨stay q hA,tup⟩⟩
 ·rcases look h with ⟨q,z⟩ | ⟨q,hA,hj⟩
  ·simp only [if_pos q]
   refine ⟨n,fun a ha=>⟨?_,nf a ha⟩⟩
   rcases m a ha with z | z | ⟨l,hl,z⟩
   ·exact ((S.own i d e).2 a z).1
   ·exact S.same.free z
   ·obtain ⟨dl,el⟩:=ho l hl
    exact ((S.own l dl el).2 a z).1
  ·simp only [if_neg q]
   refine ⟨(S.own j x hA).1,fun a ha=>⟨((S.own j x hA).2 a ha).1,fun o u z=>?_⟩⟩
   rw [stay q hA a ha] at z
   exact ((S.own j x hA).2 a ha).2 o u z
 ·rcases look h with ⟨q1,_⟩ | ⟨q,hA,hj⟩
  ·simp only [if_pos q1]
   rcases look h' with ⟨q2,_⟩ | ⟨q',hB,hl⟩
   ·exact absurd (q1.trans q2.symm) hjl
   ·rw [if_neg q']; exact apart q' hB hl
  ·simp only [if_neg q]
   rcases look h' with ⟨q2,_⟩ | ⟨q',hB,hl⟩
   ·rw [if_pos q2]; exact fun a ha hb=>apart q hA hj a hb ha
   ·rw [if_neg q']; exact S.dis j l x y o hjl hA hB
 ·rcases look h with ⟨_,z⟩ | ⟨q,hA,_⟩
  ·cases z
  ·simp only [if_neg q]; exact S.old j x hA
theorem SOK.lst {i:Nat} {ds:List D} (S:SOK cl H0 ρ F σ H) (e:ρ[i]?=some (some (.lst ds,true))):∃ a vs f,σ[i]?=some (some (.ref a))∧H a=some (.lst vs)∧F i=a::f∧RepL cl H ds vs f:=by
 refine zz fun P_ k_=>?_
 obtain ⟨v,h1,r⟩:=S.rep i _ _ e
 obtain ⟨a,vs,f,ev,ef,r,h⟩:=r
 refine k_ ?_
 subst ev
 rcases h with h | ⟨o,h⟩
 ·exact ⟨a,vs,f,h1,h,ef,r⟩
 ·exact absurd h (((S.own i _ e).2 a (by rw [ef]; exact List.mem_cons_self)).2 o _)
open Classical in
noncomputable def reb (H:Hp) (ρ:Env) (F:Nat→List Addr):Hp:=fun a=>if ∃ (j:Nat) (d:D),ρ[j]?=some (some (d,true))∧a∈F j then none else H a
theorem reb_none {a:Addr} {j:Nat} {d:D} (e:ρ[j]?=some (some (d,true))) (ha:a∈F j):reb H ρ F a=none:=by
 unfold reb
 rw [if_pos ⟨j,d,e,ha⟩]
theorem eU {a:Addr} (h:∀ (j:Nat) (d:D),ρ[j]?=some (some (d,true))→a∉F j):reb H ρ F a=H a:=by
 unfold reb
 rw [if_neg fun hh_=>(by obtain ⟨j,d,e,ha⟩:=hh_; exact (h j d e ha))]
noncomputable def Lent (ρ ρl:Env):Prop:=ρl.length=ρ.length∧∀ (j:Nat) (d:D) (o:Bool),ρl[j]?=some (some (d,o))→ρ[j]?=some (some (d,o))∨(o=false∧ρ[j]?=some (some (d,true)))
theorem Lent.get (L:Lent ρ ρl) {j:Nat} {d:D} {o:Bool} (e:ρl[j]?=some (some (d,o))):∃ o',ρ[j]?=some (some (d,o'))∧(o=true→o'=true):=by
 rcases L.2 j d o e with h | ⟨h1,h2⟩
 ·exact ⟨o,h,id⟩
 ·exact ⟨true,h2,fun _=>rfl⟩
theorem SOK.rebase (S:SOK cl H0 ρ F σ H) (L:Lent ρ ρl):SOK cl (reb H ρl F) ρl F σ H:=by
 refine ⟨fun b o h=>?_,S.len.trans L.1.symm,fun j d o h=>?_,fun j d h=>?_,fun i j d e o hij h h'=>?_,fun j d h a ha=>?_⟩
 ·unfold reb at h
  split at h
  ·injection h
  ·exact h
 ·obtain ⟨o',h1,_⟩:=L.get h
  exact S.rep j d o' h1
 ·obtain ⟨o',h1,h2⟩:=L.get h
  have h1:ρ[j]?=some (some (d,true)):=by rw [h1,h2 rfl]
  exact ⟨(S.own j d h1).1,fun a ha=>⟨reb_none h ha,((S.own j d h1).2 a ha).2⟩⟩
 ·obtain ⟨o1,h1,h2⟩:=L.get h
  obtain ⟨o2,h3,_⟩:=L.get h'
  have h1:ρ[i]?=some (some (d,true)):=by rw [h1,h2 rfl]
  exact S.dis i j d e o2 hij h1 h3
 ·obtain ⟨o1,h1,_⟩:=L.get h
  rw [eU fun l x hl hal=>?_]
  ·exact S.dom h1 a ha
  ·obtain ⟨o2,h3,h4⟩:=L.get hl
   have h3:ρ[l]?=some (some (x,true)):=by rw [h3,h4 rfl]
   have hlj:l≠j:=fun q=>by
    rw [q] at hl
    rw [h] at hl
    cases hl
   exact S.dis l j x d o1 hlj h3 h1 a hal ha
set_option tactic.hygienic true in
theorem eS {ws:List Nat} {j:Nat} {x:D × Bool} (h:(rest ρ ρl ρ' ws)[j]?=some (some x)) :
  (¬ (j∉ws∧∃ d,ρl[j]?=some (some (d,false)))∧x.2=true∧ρ'[j]?=some (some x))∨(j∈ws∧x.2=true∧x.1.imm=true∧ρ'[j]?=some (some (x.1,false)))∨(j∉ws∧(∃ d,ρl[j]?=some (some (d,false)))∧ρ[j]?=some (some x)):=by
 unfold rest at h
 rw [List.getElem?_mapIdx] at h
 cases e:ρ'[j]? with
 | none=>rw [e] at h; injection h
 | some y =>
  rw [e] at h
  simp only [Option.map_some,Option.some.injEq] at h
  by_cases hw:ws.contains j=true
  ·rw [if_pos hw] at h
   have hw':j∈ws:=by simpa using hw
   cases y with
   | none=>injection h
   | some p =>
    obtain ⟨d,o⟩:=p
    cases o with
    | true=>(injection h with h; subst h); exact .inl ⟨fun z=>z.1 hw',rfl,rfl⟩
    | false =>
     simp only at h
     by_cases hd:d.imm=true
     ·rw [if_pos hd] at h
      (injection h with h; subst h)
      exact .inr (.inl ⟨hw',rfl,hd,rfl⟩)
     ·rw [if_neg hd] at h
      injection h
  ·rw [if_neg hw] at h
   have hw':j∉ws:=fun z=>hw (by simpa using z)
   split at h
   ·rename_i d' el
    refine .inr (.inr ⟨hw',⟨d',el⟩, ?_⟩)
    cases q:ρ[j]? with
    | none=>rw [q] at h; injection h
    | some z=>rw [q] at h; simp only at h; rw [h]
   ·rename_i hnl
    cases y with
    | none=>injection h
    | some p =>
     obtain ⟨d,o⟩:=p
     cases o with
     | true=>(injection h with h; subst h); exact .inl ⟨fun z=>let ⟨d',e'⟩:=z.2; hnl d' e',rfl,rfl⟩
     | false=>injection h
theorem SOK.restore {ws:List Nat} (S:SOK cl H0 ρ F σ H) (L:Lent ρ ρl) (S':SOK cl (reb H ρl F) ρ' F' σ' H') (hσ:∀ j,j∉ws→σ'[j]?=σ[j]?) :
  ∃ F'',SOK cl H0 (rest ρ ρl ρ' ws) F'' σ' H':=by
 have sub:∀ {a:Addr},H0 a≠none→reb H ρl F a=H0 a:=fun {a} ha=>by
  cases q:H0 a with
  | none=>exact absurd q ha
  | some o =>
   rw [eU fun l x hl hal=>?_]
   ·exact S.same a o q
   ·obtain ⟨o2,h3,h4⟩:=L.get hl
    have h3:ρ[l]?=some (some (x,true)):=by rw [h3,h4 rfl]
    have:=((S.own l x h3).2 a hal).1
    rw [q] at this
    injection this
 have R:=S.rebase L
 have kept:∀ {j:Nat} {x:D} {o:Bool},(∃ d,ρl[j]?=some (some (d,false)))→ρ[j]?=some (some (x,o))→∀ a∈F j,reb H ρl F a≠none:=fun {j x o} ⟨d,hl⟩ h a ha=>R.old j d hl a ha
 have rebH:∀ {a:Addr},reb H ρl F a≠none→H' a=H a:=fun {a} ha=>by
  have e:reb H ρl F a=H a:=by
   unfold reb at ha ⊢
   split at ha
   ·exact absurd rfl ha
   ·rw [if_neg ‹_›]
  cases q:H a with
  | none=>rw [e] at ha; exact absurd q ha
  | some o=>exact S'.same a o (e.trans q)
 have tups:∀ a vs,H a=some (.tup vs)→H' a=some (.tup vs):=fun a vs h=>by
  have e:reb H ρl F a=H a:=eU fun l x hl hal=>by
   obtain ⟨o2,h3,h4⟩:=L.get hl
   obtain ⟨v,_,r⟩:=S.rep l x o2 h3
   exact r.notup a hal vs h
  exact S'.same a _ (e.trans h)
 refine ⟨fun j=>open Classical in if j∉ws∧(∃ d,ρl[j]?=some (some (d,false))) then F j else F' j, ?_⟩
 refine ⟨fun b o h=>S'.same b o ((sub (by rw [h]; simp)).trans h), ?_,fun j d o h=>?_,fun j d h=>?_,fun i j d e o hij h h'=>?_,fun j d h=>?_⟩
 ·rw [S'.len]
  unfold rest
  simp
 ·rcases eS h with ⟨nk,_,e⟩ | ⟨hw,_,hd,e⟩ | ⟨hw,hl,e⟩
  ·rw [if_neg nk]; exact S'.rep j d o e
  ·rw [if_neg fun z=>z.1 hw]; exact S'.rep j d false e
  ·rw [if_pos ⟨hw,hl⟩]
   obtain ⟨v,h1,r⟩:=S.rep j d o e
   exact ⟨v,by rw [hσ j hw]; exact h1,r.keep ⟨fun a ha=>rebH (kept hl e a ha),tups⟩⟩
 ·rcases eS h with ⟨nk,_,e⟩ | ⟨hw,_,hd,e⟩ | ⟨hw,hl,e⟩
  ·simp only [if_neg nk]
   refine ⟨(S'.own j d e).1,fun a ha=>⟨?_,((S'.own j d e).2 a ha).2⟩⟩
   have z:=((S'.own j d e).2 a ha).1
   cases q:H0 a with
   | none=>rfl
   | some x =>
    have:=sub (a:=a) (by rw [q]; simp)
    rw [z,q] at this
    injection this
  ·simp only [if_neg fun (z:j∉ws∧_)=>z.1 hw]
   obtain ⟨v,_,r⟩:=S'.rep j d false e
   rw [r.imm hd]
   exact ⟨List.nodup_nil,fun a ha=>nomatch ha⟩
  ·simp only [if_pos (⟨hw,hl⟩:j∉ws∧_)]
   refine ⟨(S.own j d e).1,fun a ha=>⟨((S.own j d e).2 a ha).1,fun o u z=>?_⟩⟩
   rw [rebH (kept hl e a ha)] at z
   exact ((S.own j d e).2 a ha).2 o u z
 ·intro a ha hb
  rcases eS h with ⟨nk,_,ei⟩ | ⟨hw,_,hd,ei⟩ | ⟨hw,hl,ei⟩
  ·simp only [if_neg nk] at ha
   have z:=((S'.own i d ei).2 a ha).1
   rcases eS h' with ⟨nk',_,ej⟩ | ⟨hw',_,hd',ej⟩ | ⟨hw',hl',ej⟩
   ·simp only [if_neg nk'] at hb
    exact S'.dis i j d e o hij ei ej a ha hb
   ·simp only [if_neg fun (z:j∉ws∧_)=>z.1 hw'] at hb
    exact S'.dis i j d e false hij ei ej a ha hb
   ·simp only [if_pos (⟨hw',hl'⟩:j∉ws∧_)] at hb
    exact kept hl' ej a hb z
  ·simp only [if_neg fun (z:i∉ws∧_)=>z.1 hw] at ha
   obtain ⟨v,_,r⟩:=S'.rep i d false ei
   rw [r.imm hd] at ha
   cases ha
  ·simp only [if_pos (⟨hw,hl⟩:i∉ws∧_)] at ha
   have z:=kept hl ei a ha
   rcases eS h' with ⟨nk',ho',ej⟩ | ⟨hw',_,hd',ej⟩ | ⟨hw',hl',ej⟩
   ·simp only [if_neg nk'] at hb
    have ho':o=true:=ho'
    subst ho'
    exact z ((S'.own j e ej).2 a hb).1
   ·simp only [if_neg fun (z:j∉ws∧_)=>z.1 hw'] at hb
    obtain ⟨v,_,r⟩:=S'.rep j e false ej
    rw [r.imm hd'] at hb
    cases hb
   ·simp only [if_pos (⟨hw',hl'⟩:j∉ws∧_)] at hb
    exact S.dis i j d e o hij ei ej a ha hb
 ·rcases eS h with ⟨_,z,_⟩ | ⟨_,z,_⟩ | ⟨hw,hl,e⟩
  ·injection z
  ·injection z
  ·simp only [if_pos (⟨hw,hl⟩:j∉ws∧_)]
   exact S.old j d e
end
end Vi
namespace L2
open PySem PySem.Spec PyProof.Rows
section
variable {X:Cx}
theorem lstR {pins : List (Addr × Obj)} {σ : St} {H : Hp} {s : Shared} {l : Addr} {xs : List V} (I : Inv X pins σ H s) (hH : Rd H l (.lst xs)) : xs.length ≤ sizeLine ∧ ∃ (its : List Value) (n : Nat), Vals xs its ∧ xs.length = its.length ∧ s.heap.get? l = some { cls := .type "list", data := .seq its.toArray n } := by
 obtain ⟨z,its,n,r,e⟩:=hH.ok I.hok
 exact ⟨z,its,n,r,r.length,e⟩
noncomputable def rCatR:R2:=fun x y H Q=>∃ l b xs zs,x=.ref l∧y=.ref b∧Rd H l (.lst xs)∧Rd H b (.lst zs)∧xs.length+zs.length≤sizeLine∧∀ p,H p=none→Q (.ref p) (upd H p (.lst (xs++zs)))
theorem op_catR:OpR X (binaryOp .Add) rCatR:=by
 intro pins s σ H x y v u Q I rx ry hh_
 obtain ⟨l,b,xs,zs,ex,ey,hH,hB,hz,q⟩:=hh_
 subst ex; subst ey
 subst rx
 subst ry
 obtain ⟨z,its,n,r,hl,e⟩:=lstR I hH
 obtain ⟨z2,its2,n2,r2,hl2,e2⟩:=lstR I hB
 refine PySem.P.add_list e e2 ?_ (by simp only [List.size_toArray]; (clear I hH hB q z r e z2 r2 e2; omega))
 rw [show its.toArray++its2.toArray=(its++its2).toArray by simp]
 refine ⟨.ref _,_,I.lnew (t':=s.toks) (r.append r2) ?_,rfl,q _ I.fresh⟩
 rw [List.length_append]
 assumption
end
end L2
namespace Vi
open PySem PySem.Spec PyProof.Rows L2
theorem gZ {n:Nat} (h:n≤1000000):n≤sizeLine:=by rw [sizeLine_eq]; exact Nat.le_trans ‹_› (by decide)
end Vi
namespace Vi
open PySem PySem.Spec PyProof.Rows L2
theorem bj {X:Cx} {e:Expr} {t t':TE} (h:PE X e t) (i:∀ σ H Q,t' σ H Q→t σ H Q):PE X e t':=fun pins s σ H Q I q=>h pins s σ H Q I (i σ H Q q)
theorem pt_imp {X:Cx} {e:Expr} {t t':TT} (h:PT X e t) (i:∀ σ H Q,t' σ H Q→t σ H Q):PT X e t':=fun pins s σ H Q I q=>h pins s σ H Q I (i σ H Q q)
theorem pa_imp {X:Cx} {es:List Expr} {t t':TA} (h:PA X es t) (i:∀ σ H Q,t' σ H Q→t σ H Q):PA X es t':=fun pos pins s σ H Q I q=>h pos pins s σ H Q I (i σ H Q q)
inductive tTd (cl:Nat→Addr) (ρ:Env) (c:Bool) (σ:L2.St) (H:Hp) (Q:Bool→Hp→Prop):Prop
 | mk (H0:Hp) (F:Nat→List Addr) (S:SOK cl H0 ρ F σ H) (q:∀ H',Same H H'→Q c H')
section
variable {X:Cx} {cl:Nat→Addr} {ρ:Env} {a b c:Expr} {pos:Pos} {d d1 d2 z:D} {k k1 k2:Kd}
set_option tactic.hygienic true in
theorem e_var {i : Nat} {x : Str} (hN : X.N[i]? = some x) (hv : Vis X.env.scope x) (hd : (x == ("__debug__" : Str)) = false) (hcd : (x == ("__classdict__" : Str)) = false) (h : getV ρ i = .ok (d, k)) : PE X (.Name x pos) (tD cl ρ d k) := by
 refine bj (cD hN hv hd hcd) fun σ H Q hh_=>?_
 obtain ⟨H0,F,S,q⟩:=hh_
 unfold getV at h
 split at h
 ·rename_i d' o e
  injection h with h
  obtain ⟨h1,h2⟩:=Prod.mk.inj h
  subst h1
  obtain ⟨v,h1,r⟩:=S.rep i d' o e
  refine ⟨v,h1,q v H (F i) (Same.refl H) r ?_⟩
  rw [← h2]
  by_cases hi:d'.imm=true
  ·rw [if_pos hi]; exact KOk.imm r hi
  ·rw [if_neg hi]
   cases o with
   | true =>
    rw [if_pos rfl]
    exact ⟨(S.own i d' e).1,fun j hj=>by rw [List.mem_singleton.mp hj]; exact ⟨d',e⟩,fun a ha=>.inr ⟨i,List.mem_singleton.mpr rfl,ha⟩,fun a ha=>((S.own i d' e).2 a ha).2⟩
   | false=>rw [if_neg Bool.false_ne_true]; exact S.old i d' e
 ·injection h
theorem e_int {i:Int} {j}:PE X (.Constant (.int i) j pos) (tD cl ρ (.int i) (.sto [])):=bj pe_int fun σ H Q hh_=>(by obtain ⟨_,_,_,q⟩:=hh_; exact (q _ H [] (Same.refl H) ⟨rfl,rfl⟩ KOk.nil0))
theorem e_bl {i:Bool} {j}:PE X (.Constant (.bool i) j pos) (tD cl ρ (.bl i) (.sto [])):=bj pe_bl fun σ H Q hh_=>(by obtain ⟨_,_,_,q⟩:=hh_; exact (q _ H [] (Same.refl H) ⟨rfl,rfl⟩ KOk.nil0))
theorem e_non {j}:PE X (.Constant .none j pos) (tD cl ρ .non (.sto [])):=bj pe_non fun σ H Q hh_=>(by obtain ⟨_,_,_,q⟩:=hh_; exact (q _ H [] (Same.refl H) ⟨rfl,rfl⟩ KOk.nil0))
theorem e_op {op:Operator} {r:R2} (ho:OpR X (binaryOp op) r) (ha:PE X a (tD cl ρ d1 k1)) (hb:PE X b (tD cl ρ d2 k2))
  (hr:∀ x y H (Q:VK) f g,Rep cl H d1 x f→Rep cl H d2 y g→(∀ v,Rep cl H z v []→Q v H)→r x y H Q):PE X (.BinOp a op b pos) (tD cl ρ z (.sto [])) :=
 bj (pe_op ho ha hb) fun σ H Q hh_=>(by obtain ⟨_,_,S,q⟩:=hh_; exact (tD2 S fun x y H1 H2 f g s1 s2 r1 r2 _ _ _=>hr x y H2 Q f g r1 r2 fun v rv=>q v H2 [] (s1.trans s2) rv KOk.nil0))
theorem e_cmp {op:CmpOp} {r:R2} {t:Bool} (ho:OpR X (compareOp op) r) (hm:behindInMarks op b=false) (ha:PE X a (tD cl ρ d1 k1)) (hb:PE X b (tD cl ρ d2 k2))
  (hr:∀ x y H (Q:VK) f g,Rep cl H d1 x f→Rep cl H d2 y g→Q (.bl t) H→r x y H Q):PE X (.Compare a [op] [b] pos) (tD cl ρ (.bl t) (.sto [])) :=
 bj (pe_cmpR ho ha hb hm) fun σ H Q hh_=>(by obtain ⟨_,_,S,q⟩:=hh_; exact (tD2 S fun x y H1 H2 f g s1 s2 r1 r2 _ _ _=>hr x y H2 Q f g r1 r2 (q _ H2 [] (s1.trans s2) ⟨rfl,rfl⟩ KOk.nil0)))
theorem t_cmp {op:CmpOp} {r:R2} {t:Bool} (ho:OpR X (compareOp op) r) (hm:behindInMarks op b=false) (ha:PE X a (tD cl ρ d1 k1)) (hb:PE X b (tD cl ρ d2 k2))
  (hr:∀ x y H (Q:VK) f g,Rep cl H d1 x f→Rep cl H d2 y g→Q (.bl t) H→r x y H Q):PT X (.Compare a [op] [b] pos) (tTd cl ρ t) :=
 pt_imp (pt_cmpR ho ha hb hm) fun σ H Q hh_=>(by obtain ⟨_,_,S,q⟩:=hh_; exact (tD2 S fun x y H1 H2 f g s1 s2 r1 r2 _ _ _=>hr x y H2 _ f g r1 r2 ⟨t,rfl,q H2 (s1.trans s2)⟩))
noncomputable def opOf:Op→Operator
 | .add=>.Add
 | .sub=>.Sub
 | .mul=>.Mult
 | .fdiv=>.FloorDiv
 | .mod=>.Mod
 | .pow=>.Pow
theorem ip (h:z.imm=true):kdOf z=.sto []:=by
 unfold kdOf
 rw [if_pos]
 cases z <;> first | exact h | (simp [D.imm] at h)
theorem RepL.append {H:Hp}:∀ {l m:List D} {vs ws:List V} {f g:List Addr},RepL cl H l vs f→RepL cl H m ws g→RepL cl H (l++m) (vs++ws) (f++g):=by
 intro x_0
 induction x_0 with
 | nil =>
  intro m vs ws f g h h'
  obtain ⟨h1,h2⟩:=h
  rw [h1,h2]
  exact h'
 | cons d l ih_ =>
  intro m vs ws f g h h'
  obtain ⟨v,vr,f1,f2,e,ef,r1,r2⟩:=h
  subst e; subst ef
  show RepL cl H (d::(l++m)) _ _
  unfold RepL
  exact ⟨v,vr++ws,f1,f2++g,rfl,by rw [List.append_assoc],r1,ih_ r2 h'⟩
theorem bX {K:PySem.W.Frag} {H:Hp} {l:List D} {x:V} {f:List Addr} (r:Rep cl H (.lst l) x f):∃ p vs g,x=.ref p∧SqL K H p vs∧RepL cl H l vs g:=by
 obtain ⟨p,vs,g,e,_,r,h⟩:=r
 refine ⟨p,vs,g,e, ?_,r⟩
 rcases h with h | ⟨o,h⟩
 ·exact .inl (.inl h)
 ·exact .inl (.inr ⟨o,h⟩)
theorem gF {K:PySem.W.Frag} {H:Hp} {l:List D} {x:V} {f:List Addr} (r:Rep cl H (.tup l) x f):∃ p vs,x=.ref p∧SqT K H p vs∧RepL cl H l vs f:=by
 obtain ⟨p,vs,e,h,r⟩:=r
 exact ⟨p,vs,e,.inl (.inl h),r⟩
theorem lst_rd {H:Hp} {l:List D} {x:V} {f:List Addr} (r:Rep cl H (.lst l) x f):∃ p vs g,x=.ref p∧Rd H p (.lst vs)∧RepL cl H l vs g:=by
 obtain ⟨p,vs,g,e,_,r,h⟩:=r
 exact ⟨p,vs,g,e,h,r⟩
theorem i2_ok {α:Type} {f:Int→Int→R α} {d1 d2:D} {z:α} (h:i2 f d1 d2=.ok z):∃ a b,d1=.int a∧d2=.int b∧f a b=.ok z:=by
 cases d1 with
 | int a=>cases d2 with
  | int b=>exact ⟨a,b,rfl,rfl,h⟩
  | _=>injection h
 | _=>injection h
theorem jf {α:Type} {c:Prop} [Decidable c] {x z:α} (h:(if c then R.ok x else R.bad)=.ok z):c∧x=z:=by
 by_cases hc:c
 ·rw [if_pos hc] at h; injection h with h; exact ⟨hc,h⟩
 ·rw [if_neg hc] at h; injection h
theorem e_bin {o:Op} (h:opD o d1 d2=.ok z) (ha:PE X a (tD cl ρ d1 k1)) (hb:PE X b (tD cl ρ d2 k2)):PE X (.BinOp a (opOf o) b pos) (tD cl ρ z (kdOf z)):=by
 cases o with
 | add =>
  cases d1 with
  | int i1 =>
   cases d2 with
   | int j1 =>
    rw [opD_1] at h
    injection h with h; subst h
    rw [ip rfl]
    exact e_op op_add ha hb fun x y H Q f g r1 r2 q=>⟨_,_,r1.1,r2.1,q _ ⟨rfl,rfl⟩⟩
   | _=>injection h
  | lst l =>
   cases d2 with
   | lst m =>
    rw [opD_7] at h
    split at h
    ·rename_i hc
     injection h with h; subst h
     refine bj (pe_op op_catR ha hb) fun σ H Q ⟨H0,F,S,q⟩=>tD2 S fun x y H1 H2 f g s1 s2 r1 r2 _ _ _=>?_
     obtain ⟨p1,v1,g1,e1,h1,l1⟩:=lst_rd r1
     obtain ⟨p2,v2,g2,e2,h2,l2⟩:=lst_rd r2
     refine ⟨p1,p2,v1,v2,e1,e2,h1,h2,by rw [l1.len,l2.len]; exact gZ hc,fun p hp=>?_⟩
     have sn:=Same.new (o:=HO.lst (v1++v2)) hp
     have ll:=(l1.append l2).same sn
     have rr:Rep cl (upd H2 p (.lst (v1++v2))) (.lst (l++m)) (.ref p) (p::(g1++g2)):=by
      unfold Rep
      exact ⟨p,_,_,rfl,rfl,ll,.inl ao⟩
     refine q (.ref p) _ _ ((s1.trans s2).trans sn) rr ?_
     unfold kdOf
     by_cases hi:immL (l++m)=true
     ·rw [if_pos (show (D.lst (l++m)).flat=true from hi)]
      have e0:=ll.imm hi
      rw [e0]
      refine ⟨by simp,fun _ h=>(nomatch h),fun a ha=>.inl ?_,fun a ha o u z=>?_⟩
      ·rw [List.mem_singleton.mp ha]; exact (s1.trans s2).free hp
      ·rw [List.mem_singleton.mp ha,ao] at z; (injection z with z; injection z)
     ·rw [if_neg (show ¬ (D.lst (l++m)).flat=true from hi)]
      exact True.intro
    ·injection h
   | _=>injection h
  | _=>injection h
 | sub =>
  obtain ⟨i,j,e1,e2,h⟩:=i2_ok h
  subst e1; subst e2
  injection h with h; subst h
  rw [ip rfl]
  exact e_op op_sub ha hb fun x y H Q f g r1 r2 q=>⟨_,_,r1.1,r2.1,q _ ⟨rfl,rfl⟩⟩
 | mul =>
  obtain ⟨i,j,e1,e2,h⟩:=i2_ok h
  subst e1; subst e2
  obtain ⟨hc,h⟩:=jf h
  subst h
  rw [ip rfl]
  exact e_op op_mul ha hb fun x y H Q f g r1 r2 q=>⟨_,_,r1.1,r2.1,hc,q _ ⟨rfl,rfl⟩⟩
 | fdiv =>
  obtain ⟨i,j,e1,e2,h⟩:=i2_ok h
  subst e1; subst e2
  obtain ⟨hc,h⟩:=jf h
  subst h
  rw [ip rfl]
  exact e_op op_fdiv ha hb fun x y H Q f g r1 r2 q=>⟨_,_,r1.1,r2.1,hc,q _ ⟨rfl,rfl⟩⟩
 | mod =>
  obtain ⟨i,j,e1,e2,h⟩:=i2_ok h
  subst e1; subst e2
  obtain ⟨hc,h⟩:=jf h
  subst h
  rw [ip rfl]
  exact e_op op_mod ha hb fun x y H Q f g r1 r2 q=>⟨_,_,r1.1,r2.1,hc,q _ ⟨rfl,rfl⟩⟩
 | pow =>
  obtain ⟨i,j,e1,e2,h⟩:=i2_ok h
  subst e1; subst e2
  obtain ⟨hc,h⟩:=jf h
  subst h
  rw [ip rfl]
  exact e_op op_pow ha hb fun x y H Q f g r1 r2 q=>⟨_,_,r1.1,r2.1,hc,q _ ⟨rfl,rfl⟩⟩
end
end Vi
namespace Vi
open PySem PySem.Spec PyProof.Rows L2
section
variable {X:Cx} {cl:Nat→Addr} {ρ:Env} {a b c e:Expr} {es:List Expr} {pos:Pos} {d d1 d2 z:D} {ds:List D} {k k1 k2 k':Kd}
theorem KOk.post {H H0 H1 H2:Hp} {F:Nat→List Addr} {fp:List Addr} (h:KOk ρ F H H0 H1 fp k) (s:Same H1 H2) (hd:∀ a∈fp,H1 a≠none):KOk ρ F H H0 H2 fp k:=by
 cases k with
 | sto is=>exact ⟨h.1,h.2.1,h.2.2.1,fun a ha=>(h.2.2.2 a ha).same s (hd a ha)⟩
 | old=>exact h
 | bor=>exact h
theorem a_nil:PA X [] (tDs cl ρ [] (.sto [])):=pa_imp de fun σ H Q hh_=>(by obtain ⟨_,_,_,q⟩:=hh_; exact (q [] H [] (Same.refl H) ⟨rfl,rfl⟩ KOk.nil0))
theorem a_cons (h1:PE X e (tD cl ρ d k)) (h2:PA X es (tDs cl ρ ds k')) (hs:starEach (e::es) X.env=(false,eval e X.env)::starEach es X.env):PA X (e::es) (tDs cl ρ (d::ds) (ff k k')) :=
 pa_imp (bI h1 h2 hs) fun σ H Q ⟨H0,F,S,q⟩=>⟨H0,F,S,fun x H1 f s1 r1 q1=>⟨H0,F,S.step s1,fun xs H2 g s2 r2 q2 =>
  q (x::xs) H2 (f++g) (s1.trans s2) (by unfold RepL; exact ⟨x,xs,f,g,rfl,rfl,r1.same s2,r2⟩) (KOk.comb S s1 s2 r1.dom q1 q2)⟩⟩
theorem e_tup {x1} (h:PA X es (tDs cl ρ ds k)) (hl:ds.length≤1000000):PE X (.Tuple es x1 pos) (tD cl ρ (.tup ds) k) :=
 bj (pe_tup h) fun σ H Q ⟨H0,F,S,q⟩=>⟨H0,F,S,fun vs H1 fp s1 r1 q1=>⟨by rw [r1.len]; exact gZ hl,fun p hp=>by
  have sn:=Same.new (o:=HO.tup vs) hp
  refine q (.ref p) _ fp (s1.trans sn) ?_ (q1.post sn r1.dom)
  unfold Rep
  exact ⟨p,vs,rfl,ao,r1.same sn⟩⟩⟩
theorem e_lst (h:PA X es (tDs cl ρ ds k)) (hl:ds.length≤1000000):PE X (.List es pos) (tD cl ρ (.lst ds) (dispK k)) :=
 bj (pe_lst h) fun σ H Q ⟨H0,F,S,q⟩=>⟨H0,F,S,fun vs H1 fp s1 r1 q1=>⟨by rw [r1.len]; exact gZ hl,fun p hp=>by
  have sn:=Same.new (o:=HO.lst vs) hp
  have np:p∉fp:=fun z=>r1.dom p z hp
  refine q (.ref p) _ (p::fp) (s1.trans sn) ?_ ?_
  ·unfold Rep
   exact ⟨p,vs,fp,rfl,rfl,r1.same sn,.inl ao⟩
  ·cases k with
   | old=>exact True.intro
   | bor=>exact True.intro
   | sto is =>
    obtain ⟨h1,h2,h3,h4⟩:=q1.post sn r1.dom
    refine ⟨List.nodup_cons.mpr ⟨np,h1⟩,h2,fun a ha=>?_,fun a ha=>?_⟩
    ·rcases List.mem_cons.mp ha with z | z
     ·rw [z]; exact .inl (s1.free hp)
     ·exact h3 a z
    ·rcases List.mem_cons.mp ha with z | z
     ·rw [z]; intro o u q'; rw [ao] at q'; (injection q' with q'; injection q')
     ·exact h4 a z⟩⟩
end
end Vi
namespace Vi
open PySem PySem.Spec PyProof.Rows L2
section
variable {X:Cx} {cl:Nat→Addr} {ρ:Env} {a b c e:Expr} {es rest:List Expr} {pos:Pos} {d d1 d2 z:D} {ds:List D} {k k1 k2 k':Kd} {t u:Bool}
theorem iu {α β:Type} {l:List α} {m:List β} (h:l.length=m.length):l.isEmpty=m.isEmpty:=by
 cases l <;> cases m <;> first | rfl | simp at h
theorem tru_rep {K:PySem.W.Frag} {H:Hp} {x:V} {f:List Addr} (r:Rep cl H d x f) (h:truD d=.ok t):TruV K x H t:=by
 cases d with
 | non=>(injection h with h; subst h); rw [r.1]; exact rfl
 | bl b=>(injection h with h; subst h); rw [r.1]; exact rfl
 | int i=>(injection h with h; subst h); rw [r.1]; exact rfl
 | str x=>injection h
 | dK l=>injection h
 | dT l=>injection h
 | obj c fs=>injection h
 | lst l =>
  (injection h with h; subst h)
  obtain ⟨p,vs,g,e,h1,h2⟩:=bX (K:=K) r
  rw [e]
  exact .inl ⟨vs,h1,by rw [iu h2.len]⟩
 | tup l =>
  (injection h with h; subst h)
  obtain ⟨p,vs,e,h1,h2⟩:=gF (K:=K) r
  rw [e]
  exact .inr (.inl ⟨vs,h1,by rw [iu h2.len]⟩)
theorem t_truth (h:PE X a (tD cl ρ d k)) (ht:truD d=.ok t) (he:∀ whole,isTrue a X.env whole=(do let v ← whole; standAt a.pos; holding [v] (truthy v))):PT X a (tTd cl ρ t) :=
 pt_imp (pt_truth h he) fun σ H Q hh_=>(by obtain ⟨H0,F,S,q⟩:=hh_; exact (⟨H0,F,S,fun v H1 fp s1 r1 _=>⟨t,tru_rep r1 ht,q H1 s1⟩⟩))
theorem t_not (h:PT X a (tTd cl ρ t)):PT X (.UnaryOp .Not a pos) (tTd cl ρ (!t)) :=
 pt_imp (pt_not h) fun σ H Q hh_=>(by obtain ⟨H0,F,S,q⟩:=hh_; exact (⟨H0,F,S,fun H1 s1=>q H1 s1⟩))
theorem w_one_and (h:PT X a (tTd cl ρ t)):PW X (.BoolOp .And [a] pos) (tTd cl ρ t):=pw_and1 h
theorem w_one_or (h:PT X a (tTd cl ρ t)):PW X (.BoolOp .Or [a] pos) (tTd cl ρ t):=pw_or1 h
theorem w_and (h:PT X a (tTd cl ρ t)) (h':t=true→PW X (.BoolOp .And (b::rest) pos) (tTd cl ρ u)):PW X (.BoolOp .And (a::b::rest) pos) (tTd cl ρ (t && u)):=by
 intro wh pins s σ H Q I hh_
 obtain ⟨H0,F,S,q⟩:=hh_
 cases t with
 | true=>exact pw_and h (h' rfl) wh pins s σ H Q I ⟨H0,F,S,fun H1 s1=>iteT ⟨H0,F,S.step s1,fun H2 s2=>q H2 (s1.trans s2)⟩⟩
 | false =>
  refine isTrue_and (thn (h pins s σ H (fun b H1=>b=false∧Q false H1) I ⟨H0,F,S,fun H1 s1=>⟨rfl,q H1 s1⟩⟩) fun c s1 hh_=>?_)
  obtain ⟨H1,I1,e,q1⟩:=hh_
  subst e
  exact ⟨H1,I1,q1⟩
theorem w_or (h:PT X a (tTd cl ρ t)) (h':t=false→PW X (.BoolOp .Or (b::rest) pos) (tTd cl ρ u)):PW X (.BoolOp .Or (a::b::rest) pos) (tTd cl ρ (t || u)):=by
 intro wh pins s σ H Q I hh_
 obtain ⟨H0,F,S,q⟩:=hh_
 cases t with
 | false=>exact pw_or h (h' rfl) wh pins s σ H Q I ⟨H0,F,S,fun H1 s1=>iteF ⟨H0,F,S.step s1,fun H2 s2=>q H2 (s1.trans s2)⟩⟩
 | true =>
  refine isTrue_or (thn (h pins s σ H (fun b H1=>b=true∧Q true H1) I ⟨H0,F,S,fun H1 s1=>⟨rfl,q H1 s1⟩⟩) fun c s1 hh_=>?_)
  obtain ⟨H1,I1,e,q1⟩:=hh_
  subst e
  exact ⟨H1,I1,q1⟩
theorem RepL.get {H:Hp}:∀ {l:List D} {vs:List V} {fp:List Addr} {j:Nat} {d:D},RepL cl H l vs fp→l[j]?=some d→∃ v f,vs[j]?=some v∧Rep cl H d v f∧∀ a∈f,a∈fp:=by
 intro x_0
 induction x_0 with
 | nil =>
  intro _ _ _ _ _ e
  simp at e
 | cons x r ih_ =>
  intro vs fp x_3
  cases x_3 with
  | zero =>
   intro d h e
   obtain ⟨v,vr,f,g,ev,ef,h1,h2⟩:=h
   subst ev; subst ef
   (injection e with e; subst e)
   exact ⟨v,f,rfl,h1,fun a ha=>List.mem_append_left _ ha⟩
  | succ j =>
   intro d h e
   obtain ⟨v,vr,f,g,ev,ef,h1,h2⟩:=h
   subst ev; subst ef
   obtain ⟨w,f',e1,e2,e3⟩:=ih_ h2 (show r[j]?=some d by simpa using e)
   exact ⟨w,f',by simpa using e1,e2,fun a ha=>List.mem_append_right _ (e3 a ha)⟩
theorem part_ok {H H0 H1:Hp} {F:Nat→List Addr} {f fp:List Addr} {v:V} (r:Rep cl H1 d v f) (hs:∀ a∈f,a∈fp) (h:KOk ρ F H H0 H1 fp k):KOk ρ F H H0 H1 f (dG d k):=by
 by_cases hi:d.imm=true
 ·cases k <;> (show KOk ρ F H H0 H1 f (if d.imm=true then _ else _); rw [if_pos hi]; exact KOk.imm r hi)
 ·cases k with
  | old=>show KOk ρ F H H0 H1 f (if d.imm=true then _ else _); rw [if_neg hi]; exact fun a ha=>h a (hs a ha)
  | sto is=>show KOk ρ F H H0 H1 f (if d.imm=true then _ else _); rw [if_neg hi]; exact True.intro
  | bor=>show KOk ρ F H H0 H1 f (if d.imm=true then _ else _); rw [if_neg hi]; exact True.intro
set_option tactic.hygienic true in
theorem e_ix (h:ixD d1 d2=.ok z) (ha:PE X a (tD cl ρ d1 k1)) (hb:PE X b (tD cl ρ d2 k2)) (hs:PlainIx b):PE X (.Subscript a b pos) (tD cl ρ z (dG z k1)):=by
 have key:∀ {α:Type} {xs:List α} {i:Int} {j:Nat} {v:α},atD xs.length i=some j→xs[j]?=some v→atI xs i=some v:=fun {α xs i j v} h1 h2=>by
  unfold atI
  rw [show ixN xs.length i=some j from h1]
  exact h2
 unfold ixD at h
 split at h
 ·rename_i l i
  split at h
  ·rename_i j hj
   split at h
   ·rename_i d' hd
    injection h with h; subst h
    refine bj (pe_ix ix_list ha hb hs) fun σ H Q ⟨H0,F,S,q⟩=>tD2 S fun x y H1 H2 f g s1 s2 r1 r2 dm q1 q2=>?_
    refine zz fun P_ k_=>?_
    obtain ⟨p,vs,f',e,ef,r,hp⟩:=r1
    obtain ⟨v,fv,e1,e2,e3⟩:=r.get hd
    refine k_ ?_
    refine ⟨p,vs,i,v,e,r2.1, ?_,key (by rw [r.len]; exact hj) e1,q v H2 fv (s1.trans s2) e2 (part_ok (fp:=f) e2 (fun a ha=>by rw [ef]; exact List.mem_cons_of_mem _ (e3 a ha)) (q1.post s2 dm))⟩
    rcases hp with hp | ⟨o,hp⟩
    ·exact .inl (.inl hp)
    ·exact .inl (.inr ⟨o,hp⟩)
   ·injection h
  ·injection h
 ·rename_i l i
  split at h
  ·rename_i j hj
   split at h
   ·rename_i d' hd
    injection h with h; subst h
    refine bj (pe_ix ix_tup ha hb hs) fun σ H Q ⟨H0,F,S,q⟩=>tD2 S fun x y H1 H2 f g s1 s2 r1 r2 dm q1 q2=>?_
    refine zz fun P_ k_=>?_
    obtain ⟨p,vs,e,hp,r⟩:=r1
    obtain ⟨v,fv,e1,e2,e3⟩:=r.get hd
    refine k_ ?_
    exact ⟨p,vs,i,v,e,r2.1,.inl (.inl hp),key (by rw [r.len]; exact hj) e1,q v H2 fv (s1.trans s2) e2 (part_ok (fp:=f) e2 e3 (q1.post s2 dm))⟩
   ·injection h
  ·injection h
 ·injection h
noncomputable def spP (cl:Nat→Addr) (m:List D→R D):Sp:=fun vs H Q _=>∃ ds fp r,RepL cl H ds vs fp∧m ds=.ok r∧∀ v H' fp',Same H H'→Rep cl H' r v fp'→fp'.Nodup→(∀ a∈fp',H a=none∧NF H' a)→Q v H'
theorem e_call {m:List D→R D} {kk:Nat} {f:Addr} {fd:FuncData} {ps:List Str} {x:Str} {p:Pos} (F:FnOk X.prog X.w X.K X.mg X.base CX0 kk f fd ps (spP cl m)) (hr:Room kk X.A) (hg:Gl X x) (hm:X.mg x=some (.ref f))
  (hk:PySem.W.keepIn X.K (.ref f)=true) (hb:eN X.K fd ps []) (ha:PA X (e::es) (tDs cl ρ ds k)) (h:m ds=.ok z)
  (hd : (x == ("__debug__" : Str)) = false) (he : starEach (e :: es) X.env = (false, eval e X.env) :: starEach es X.env) (hpl : (backTo pos (starEach es X.env)).any (·.1) = false) :
  PE X (.Call (.Name x p) (e::es) [] pos) (tD cl ρ z (.sto [])):=by
 refine bj (pe_call F hr hg hm hk hb .nil pass0 ha hd he hpl) fun σ H Q ⟨H0,F',S,q⟩=>⟨H0,F',S,fun vs H1 fp s1 r1 q1=>?_⟩
 refine ⟨ds,fp,z,by rw [List.append_nil]; exact r1,h,fun v H2 fp' s2 r2 nd fr=>q v H2 fp' (s1.trans s2) r2 ⟨nd,fun _ z=>(nomatch z),fun a ha=>.inl (s1.free (fr a ha).1),fun a ha=>(fr a ha).2⟩⟩
end
end Vi
namespace Vi
open PySem PySem.Spec PyProof.Rows L2
noncomputable def fV (cl:Nat→Addr) (H0:Hp) (σ:L2.St) (ws:List Nat) (D':Ends):Out→Prop
 | .nx ρ'=>∀ σ' H' F',SOK cl H0 ρ' F' σ' H'→(∀ j,j∉ws→σ'[j]?=σ[j]?)→D'.nx σ' H'
 | .bk ρ'=>∀ σ' H' F',SOK cl H0 ρ' F' σ' H'→(∀ j,j∉ws→σ'[j]?=σ[j]?)→D'.bk σ' H'
 | .ct ρ'=>∀ σ' H' F',SOK cl H0 ρ' F' σ' H'→(∀ j,j∉ws→σ'[j]?=σ[j]?)→D'.ct σ' H'
 | .rt d=>∀ v H' fp,Same H0 H'→Rep cl H' d v fp→fp.Nodup→(∀ a∈fp,H0 a=none∧NF H' a)→D'.rt v H'
 | .ex _=>False
 | .bad=>False
inductive tSd (cl:Nat→Addr) (ρ:Env) (ws:List Nat) (o:Out) (D':Ends) (σ:L2.St) (H:Hp):Prop
 | mk (H0:Hp) (F:Nat→List Addr) (S:SOK cl H0 ρ F σ H) (q:fV cl H0 σ ws D' o)
theorem cN {X:Cx} {st:Stmt} {t t':TS} (h:PS X st t) (i:∀ D σ H,t' D σ H→t D σ H):PS X st t':=fun pins s σ H D I q=>h pins s σ H D I (i D σ H q)
theorem ib {X:Cx} {st:List Stmt} {t t':TS} (h:PSs X st t) (i:∀ D σ H,t' D σ H→t D σ H):PSs X st t':=fun pins s σ H D I q=>h pins s σ H D I (i D σ H q)
section
variable {X:Cx} {cl:Nat→Addr} {ρ ρ':Env} {a b c e:Expr} {es:List Expr} {st:Stmt} {rst:List Stmt} {pos:Pos} {d:D} {k:Kd} {t:Bool} {ws ws':List Nat} {o:Out} {H0:Hp} {σ σ1:L2.St} {D':Ends}
theorem fV.step (h:fV cl H0 σ (ws++ws') D' o) (hs:∀ j,j∉ws→σ1[j]?=σ[j]?):fV cl H0 σ1 ws' D' o:=by
 have fr:∀ {σ':L2.St},(∀ j,j∉ws'→σ'[j]?=σ1[j]?)→∀ j,j∉ws++ws'→σ'[j]?=σ[j]?:=fun {σ'} hw j hj=>(hw j fun z=>hj (List.mem_append_right _ z)).trans (hs j fun z=>hj (List.mem_append_left _ z))
 cases o with
 | nx ρ=>exact fun σ' H' F' S hw=>h σ' H' F' S (fr hw)
 | bk ρ=>exact fun σ' H' F' S hw=>h σ' H' F' S (fr hw)
 | ct ρ=>exact fun σ' H' F' S hw=>h σ' H' F' S (fr hw)
 | rt d=>exact h
 | ex x=>exact h
 | bad=>exact h
theorem fV.sub (h:fV cl H0 σ ws' D' o) (hs:∀ j,j∈ws→j∈ws'):fV cl H0 σ ws D' o:=by
 have fr:∀ {σ':L2.St},(∀ j,j∉ws→σ'[j]?=σ[j]?)→∀ j,j∉ws'→σ'[j]?=σ[j]?:=fun {σ'} hw j hj=>hw j fun z=>hj (hs j z)
 cases o with
 | nx ρ=>exact fun σ' H' F' S hw=>h σ' H' F' S (fr hw)
 | bk ρ=>exact fun σ' H' F' S hw=>h σ' H' F' S (fr hw)
 | ct ρ=>exact fun σ' H' F' S hw=>h σ' H' F' S (fr hw)
 | rt d=>exact h
 | ex x=>exact h
 | bad=>exact h
theorem bH:PS X st (tSd cl ρ ws .bad):=fun _ _ _ _ _ _ hh_=>(by obtain ⟨_,_,_,h⟩:=hh_; exact (h.elim))
theorem s_ex {x:D}:PS X st (tSd cl ρ ws (.ex x)):=fun _ _ _ _ _ _ hh_=>(by obtain ⟨_,_,_,h⟩:=hh_; exact (h.elim))
theorem ss_bad {sts:List Stmt}:PSs X sts (tSd cl ρ ws .bad):=fun _ _ _ _ _ _ hh_=>(by obtain ⟨_,_,_,h⟩:=hh_; exact (h.elim))
theorem ss_ex {sts:List Stmt} {x:D}:PSs X sts (tSd cl ρ ws (.ex x)):=fun _ _ _ _ _ _ hh_=>(by obtain ⟨_,_,_,h⟩:=hh_; exact (h.elim))
theorem ss_nil:PSs X [] (tSd cl ρ [] (.nx ρ)):=ib pss_nil fun D σ H hh_=>(by obtain ⟨H0,F,S,q⟩:=hh_; exact (q σ H F S fun _ _=>rfl))
theorem ss_cons {f:Env→Out} (h1:PS X st (tSd cl ρ ws o)) (h2:∀ ρ',o=.nx ρ'→PSs X rst (tSd cl ρ' ws' (f ρ'))):PSs X (st::rst) (tSd cl ρ (ws++ws') (o.bind f)):=by
 have sub:∀ j,j∈ws→j∈ws++ws':=fun j hj=>List.mem_append_left _ hj
 cases o with
 | nx ρ'=>exact ib (fN h1 (h2 ρ' rfl)) fun D σ H ⟨H0,F,S,q⟩=>⟨H0,F,S,fun σ' H' F' S' hs=>⟨H0,F',S',fV.step q hs⟩⟩
 | bk ρ'=>exact ib (fN h1 eB) fun D σ H ⟨H0,F,S,q⟩=>⟨H0,F,S,fV.sub (D':=D) q sub⟩
 | ct ρ'=>exact ib (fN h1 eB) fun D σ H ⟨H0,F,S,q⟩=>⟨H0,F,S,fV.sub (D':=D) q sub⟩
 | rt d=>exact ib (fN h1 eB) fun D σ H ⟨H0,F,S,q⟩=>⟨H0,F,S,q⟩
 | ex x=>exact ss_ex
 | bad=>exact ss_bad
theorem s_set {i:Nat} (h:PS X st (tAsg (tD cl ρ d k) (iE i))) (e:bP ρ i d k=some ρ'):PS X st (tSd cl ρ [i] (.nx ρ')) :=
 cN h fun D σ H ⟨H0,F,S,q⟩=>⟨H0,F,S,fun v H1 fp s1 r1 q1=>by
  obtain ⟨F',S'⟩:=S.set s1 r1 q1 e
  exact q _ H1 F' S' fun j hj=>List.getElem?_set_ne fun z=>hj (by rw [z]; exact List.mem_singleton.mpr rfl)⟩
theorem s_ret (h:PE X e (tD cl ρ d k)):PS X (.Return (some e) pos) (tSd cl ρ [] (retK d k)):=by
 cases k with
 | old=>exact bH
 | bor=>exact bH
 | sto is=>exact cN (ps_ret h) fun D σ H ⟨H0,F,S,q⟩=>⟨H0,F,S,fun v H1 fp s1 r1 hh_=>(by obtain ⟨n1,o1,m1,z1⟩:=hh_; exact (q v H1 fp (S.same.trans s1) r1 n1 fun a ha=>⟨by
   rcases m1 a ha with z | ⟨l,hl,z⟩
   ·exact S.same.free z
   ·obtain ⟨dl,el⟩:=o1 l hl
    exact ((S.own l dl el).2 a z).1,z1 a ha⟩))⟩
theorem s_if {sa sb:List Stmt} {oa ob:Out} (hc:PT X c (tTd cl ρ t)) (ha:t=true→PSs X sa (tSd cl ρ ws oa)) (hb:t=false→PSs X sb (tSd cl ρ ws' ob)) :
  PS X (.If c sa sb pos) (tSd cl ρ (ws++ws') (if t=true then oa else ob)):=by
 cases t with
 | true=>exact cN (ps_if hc (ha rfl) eB) fun D σ H ⟨H0,F,S,q⟩=>⟨H0,F,S,fun H1 s1=>by
   rw [if_pos rfl] at q ⊢
   exact ⟨H0,F,S.step s1,fV.sub q fun j hj=>List.mem_append_left _ hj⟩⟩
 | false=>exact cN (ps_if hc eB (hb rfl)) fun D σ H ⟨H0,F,S,q⟩=>⟨H0,F,S,fun H1 s1=>by
   rw [if_neg Bool.false_ne_true] at q ⊢
   exact ⟨H0,F,S.step s1,fV.sub q fun j hj=>List.mem_append_right _ hj⟩⟩
theorem s_expr (h:PE X e (tD cl ρ d k)) (hs:swapsWith e none pos.line X.env=pure false):PS X (.Expr e pos) (tSd cl ρ [] (.nx ρ)) :=
 cN (cv h hs) fun D σ H hh_=>(by obtain ⟨H0,F,S,q⟩:=hh_; exact (⟨H0,F,S,fun v H1 fp s1 r1 _=>q σ H1 F (S.step s1) fun _ _=>rfl⟩))
theorem s_whl {body:List Stmt} {cond:Env→R Bool} {f:Env→Out} {n:Nat} (hp:PassesOwn (model X.prog X.w) X.A X.env X.xe) (hc:∀ ρ t,cond ρ=.ok t→PT X c (tTd cl ρ t)) (hb:∀ ρ,PSs X body (tSd cl ρ ws (f ρ))) :
  PS X (.While c body [] pos) (tSd cl ρ ws (whlL cond f n ρ)):=by
 have hc':PT X c (fun σ H Q=>∃ ρ t,cond ρ=.ok t∧tTd cl ρ t σ H Q):=fun pins s σ H Q I ⟨ρ,t,e,h⟩=>hc ρ t e pins s σ H Q I h
 have hb':PSs X body (fun D σ H=>∃ ρ,tSd cl ρ ws (f ρ) D σ H):=fun pins s σ H Q I ⟨ρ,h⟩=>hb ρ pins s σ H Q I h
 refine cN (ps_while hp hc' hb') fun D σ H hh_=>?_
 obtain ⟨H0,F,S,q⟩:=hh_
 refine ⟨fun m σ' H'=>∃ ρ' F',SOK cl H0 ρ' F' σ' H'∧whlL cond f m ρ'=whlL cond f n ρ∧∀ j,j∉ws→σ'[j]?=σ[j]?,⟨n,ρ,F,S,rfl,fun _ _=>rfl⟩, ?_⟩
 rintro m σ' H' ⟨ρ',F',S',e,hs⟩
 rw [← e] at q
 cases m with
 | zero=>exact (show False from q).elim
 | succ m =>
  cases hcd:cond ρ' with
  | bad=>simp only [whlL,hcd] at q; exact (show False from q).elim
  | ex x=>simp only [whlL,hcd] at q; exact (show False from q).elim
  | ok t =>
   refine ⟨ρ',t,hcd,H0,F',S',fun H1 s1=>?_⟩
   cases t with
   | false =>
    rw [if_neg Bool.false_ne_true]
    simp only [whlL,hcd] at q
    exact q σ' H1 F' (S'.step s1) hs
   | true =>
    rw [if_pos rfl]
    refine ⟨fun σ2 H2=>∃ ρ2 F2,SOK cl H0 ρ2 F2 σ2 H2∧whlL cond f m ρ2=whlL cond f n ρ∧∀ j,j∉ws→σ2[j]?=σ[j]?,fun σ2 H2 h=>⟨m,Nat.lt_succ_self m,h⟩,ρ',H0,F',S'.step s1, ?_⟩
    have e2:whlL cond f (m+1) ρ'=whlL cond f n ρ:=e
    cases hf:f ρ' with
    | nx ρ2 =>
     simp only [whlL,hcd,hf] at e2
     exact fun σ2 H2 F2 S2 h2=>⟨ρ2,F2,S2,e2,fun j hj=>(h2 j hj).trans (hs j hj)⟩
    | ct ρ2 =>
     simp only [whlL,hcd,hf] at e2
     exact fun σ2 H2 F2 S2 h2=>⟨ρ2,F2,S2,e2,fun j hj=>(h2 j hj).trans (hs j hj)⟩
    | bk ρ2 =>
     simp only [whlL,hcd,hf] at q
     exact fun σ2 H2 F2 S2 h2=>q σ2 H2 F2 S2 fun j hj=>(h2 j hj).trans (hs j hj)
    | rt x=>simp only [whlL,hcd,hf] at q; exact q
    | ex x=>simp only [whlL,hcd,hf] at q; exact q
    | bad=>simp only [whlL,hcd,hf] at q; exact q
end
end Vi
namespace Vi
open PySem PySem.Spec PyProof.Rows L2
section
variable {cl:Nat→Addr} {H0 H H1 Hb:Hp} {ρ ρl ρ1:Env} {F:Nat→List Addr} {σ:L2.St} {k:Kd} {fp:List Addr}
theorem lent_of (ρ:Env) (k:Kd):Lent ρ (aK ρ k):=by
 cases k with
 | old=>exact ⟨rfl,fun _ _ _ h=>.inl h⟩
 | bor=>exact ⟨rfl,fun _ _ _ h=>.inl h⟩
 | sto is =>
  refine ⟨by simp [aK],fun j d o h=>?_⟩
  simp only [aK] at h
  rw [List.getElem?_mapIdx] at h
  cases e:ρ[j]? with
  | none=>rw [e] at h; cases h
  | some y =>
   rw [e] at h
   simp only [Option.map_some,Option.some.injEq] at h
   by_cases hj:is.contains j=true
   ·rw [if_pos hj] at h
    cases y with
    | none=>cases h
    | some p =>
     obtain ⟨d',o'⟩:=p
     cases h
     cases o' with
     | true=>exact .inr ⟨rfl,rfl⟩
     | false=>exact .inl rfl
   ·rw [if_neg hj] at h
    rw [h]
    exact .inl rfl
theorem lent_off {is:List Nat} {j:Nat} {d:D} (h:(aK ρ (.sto is))[j]?=some (some (d,true))):j∉is:=fun hj=>by
 simp only [aK] at h
 rw [List.getElem?_mapIdx] at h
 cases e:ρ[j]? with
 | none=>rw [e] at h; injection h
 | some y =>
  rw [e] at h
  simp only [Option.map_some,Option.some.injEq] at h
  rw [if_pos (by simpa using hj)] at h
  cases y with
  | none=>injection h
  | some p=>obtain ⟨d',o'⟩:=p; cases h
theorem walk_off (S:SOK cl H0 ρ F σ H) (hk:KOk ρ F H H0 H1 fp k) (hn:noBor k=true) (s1:Same H H1):∀ b∈fp,reb H1 (aK ρ k) F b=H1 b:=fun b hb=>eU fun l x hl hal=>by
 have L:=lent_of ρ k
 obtain ⟨o2,h3,h4⟩:=L.get hl
 have h3:ρ[l]?=some (some (x,true)):=by rw [h3,h4 rfl]
 cases k with
 | bor=>injection hn
 | old=>exact hk b hb ((S.own l x h3).2 b hal).1
 | sto is =>
  rcases hk.2.2.1 b hb with z | ⟨i,hi,z⟩
  ·exact S.dom h3 b hal z
  ·obtain ⟨di,ei⟩:=hk.2.1 i hi
   have hli:l≠i:=fun q=>lent_off (q ▸ hl) hi
   exact S.dis l i x di true hli h3 ei b hal z
theorem reb_sub (S:SOK cl H0 ρ F σ H) (L:Lent ρ ρl) {a:Addr} (ha:H0 a≠none):reb H ρl F a=H0 a:=by
 cases q:H0 a with
 | none=>exact absurd q ha
 | some o =>
  rw [eU fun l x hl hal=>?_]
  ·exact S.same a o q
  ·obtain ⟨o2,h3,h4⟩:=L.get hl
   have h3:ρ[l]?=some (some (x,true)):=by rw [h3,h4 rfl]
   have:=((S.own l x h3).2 a hal).1
   rw [q] at this
   injection this
theorem reb_tup (S:SOK cl H0 ρ F σ H) (L:Lent ρ ρl) {a:Addr} {vs:List V} (h:H a=some (.tup vs)):reb H ρl F a=some (.tup vs):=by
 rw [eU fun l x hl hal=>?_]
 ·exact h
 ·obtain ⟨o2,h3,h4⟩:=L.get hl
  obtain ⟨v,_,r⟩:=S.rep l x o2 h3
  exact r.notup a hal vs h
theorem SOK.item {d:D} {x:V} {f:List Addr} {i:Nat} (S:SOK cl Hb ρ F σ H) (r:Rep cl H d x f) (ho:∀ a∈f,Hb a≠none) (e:bv ρ [i] true d .old=some ρ1):∃ F',SOK cl Hb ρ1 F' (σ.set i (some x)) H:=by
 refine S.set (Same.refl H) r ?_ (show bP ρ i d (dG d .old)=some ρ1 from e)
 show KOk ρ F H Hb H f (if d.imm=true then .sto [] else .old)
 by_cases hi:d.imm=true
 ·rw [if_pos hi]; exact KOk.imm r hi
 ·rw [if_neg hi]; exact ho
theorem SOK.setImm {d:D} {x:V} {f:List Addr} {i:Nat} (S:SOK cl Hb ρ F σ H) (r:Rep cl H d x f) (hi:d.imm=true):∃ F',SOK cl Hb (ρ.set i (some (d,true))) F' (σ.set i (some x)) H:=by
 by_cases h:i < ρ.length
 ·exact S.set (k:=.sto []) (Same.refl H) r (KOk.imm r hi) (by unfold bP; rw [if_pos h]; rfl)
 ·have h':¬ i < σ.length:=by rw [S.len]; exact h
  rw [List.set_eq_of_length_le (by exact Nat.not_lt.mp ‹_›),List.set_eq_of_length_le (by exact Nat.not_lt.mp ‹_›)]
  exact ⟨F,S⟩
theorem SOK.setImms:∀ {tg:List Nat} {ds:List D} {vs:List V} {f:List Addr} {ρ:Env} {F:Nat→List Addr} {σ:L2.St},SOK cl Hb ρ F σ H→RepL cl H ds vs f→immL ds=true →
  ∃ F',SOK cl Hb ((tg.zip ds).foldl (fun t p=>t.set p.1 (some (p.2,true))) ρ) F' ((tg.zip vs).foldl (fun t p=>t.set p.1 (some p.2)) σ) H:=by
 intro x_0
 induction x_0 with
 | nil =>
  intro ds vs f ρ F σ S _ _
  exact ⟨F,by simpa using S⟩
 | cons i tg ih_ =>
  intro x_1
  cases x_1 with
  | nil =>
   intro vs f ρ F σ S r _
   obtain ⟨e,_⟩:=r
   subst e
   exact ⟨F,by simpa using S⟩
  | cons d ds =>
   intro vs f ρ F σ S r hi
   obtain ⟨v,vr,f1,f2,e,ef,r1,r2⟩:=r
   subst e
   have hi':d.imm=true∧immL ds=true:=by simpa [immL] using hi
   obtain ⟨F1,S1⟩:=S.setImm (i:=i) r1 hi'.1
   exact ih_ S1 r2 hi'.2
end
noncomputable def gNames:List Nat→TGs
 | []=>gNil
 | i::r=>gCons (iE i) (gNames r)
theorem SOK.setParts:∀ {tg:List Nat} {ds:List D} {vs:List V} {f:List Addr} {ρ ρ1:Env} {F:Nat→List Addr} {σ:L2.St},SOK cl Hb ρ F σ H→RepL cl H ds vs f→(∀ a∈f,Hb a≠none)→eL ρ tg ds=some ρ1 →
  ∃ F',SOK cl Hb ρ1 F' ((tg.zip vs).foldl (fun t p=>t.set p.1 (some p.2)) σ) H:=by
 intro tg
 induction tg with
 | nil =>
  intro ds vs f ρ ρ1 F σ S _ _ e
  injection e with e
  subst e
  exact ⟨F,S⟩
 | cons i tg ih =>
  intro ds
  cases ds with
  | nil =>
   intro vs f ρ ρ1 F σ S r _ e
   injection e with e
   subst e
   obtain ⟨ev,_⟩:=r
   subst ev
   exact ⟨F,S⟩
  | cons d ds =>
   intro vs f ρ ρ1 F σ S r ho e
   refine zz fun P_ k_=>?_
   obtain ⟨v,vr,f1,f2,ev,ef,r1,r2⟩:=r
   refine k_ ?_
   subst ev; subst ef
   have e:(match bP ρ i d (dG d .old) with | some ρ'=>eL ρ' tg ds | none=>none)=some ρ1:=e
   cases hb:bP ρ i d (dG d .old) with
   | none=>rw [hb] at e; injection e
   | some ρ' =>
    rw [hb] at e
    obtain ⟨F1,S1⟩:=S.item (i:=i) r1 (fun a ha=>ho a (List.mem_append_left _ ha)) hb
    exact ih S1 r2 (fun a ha=>ho a (List.mem_append_right _ ha)) e
theorem iD:∀ {tg:List Nat} {vs:List V} {σ:L2.St} {H:Hp} {Q:L2.St→Hp→Prop},vs.length=tg.length→Q ((tg.zip vs).foldl (fun t p=>t.set p.1 (some p.2)) σ) H→gNames tg vs σ H Q:=by
 intro x_0
 induction x_0 with
 | nil =>
  intro x_1
  cases x_1 with
  | nil =>
   intro _ _ _ _ q
   exact ⟨rfl,q⟩
  | cons _ _ =>
   intro _ _ _ h _
   simp at h
 | cons i tg ih_ =>
  intro x_1
  cases x_1 with
  | nil =>
   intro _ _ _ h _
   simp at h
  | cons v vs =>
   intro σ H Q h q
   exact ⟨v,vs,rfl,ih_ (by simpa using h) q⟩
theorem g0:∀ {tg:List Nat} {vs:List V} {σ:L2.St} {j:Nat},j∉tg→((tg.zip vs).foldl (fun t p=>t.set p.1 (some p.2)) σ)[j]?=σ[j]?:=by
 intro x_0
 induction x_0 with
 | nil =>
  intro _ _ _ _
  simp
 | cons i tg ih_ =>
  intro x_1
  cases x_1 with
  | nil =>
   intro _ _ _
   simp
  | cons v vs =>
   intro σ j h
   show ((tg.zip vs).foldl _ (σ.set i (some v)))[j]?=_
   rw [ih_ (fun z=>h (List.mem_cons_of_mem _ z)),List.getElem?_set_ne fun z=>h (by rw [z]; exact List.mem_cons_self)]
theorem set_len:∀ {l:List (Nat × V)} {σ:L2.St},(l.foldl (fun t p=>t.set p.1 (some p.2)) σ).length=σ.length:=by
 intro x_0
 induction x_0 with
 | nil =>
  intro _
  exact rfl
 | cons p r ih_ =>
  intro σ
  exact (ih_).trans List.length_set
noncomputable def fo (cl:Nat→Addr) (tg:List Nat) (one:Bool) (g:TG):Prop :=
 ∀ (Hb:Hp) (ρ ρ1:Env) (F:Nat→List Addr) (σ:L2.St) (H:Hp) (x:V) (d:D) (f:List Addr),SOK cl Hb ρ F σ H→Rep cl H d x f→(∀ a∈f,Hb a≠none)→bv ρ tg one d .old=some ρ1 →
  ∀ Q:L2.St→Hp→Prop,(∀ σ2 F2,SOK cl Hb ρ1 F2 σ2 H→σ2.length=σ.length→(∀ j,j∉tg→σ2[j]?=σ[j]?)→Q σ2 H)→g x σ H Q
theorem bd {cl:Nat→Addr} {i:Nat}:fo cl [i] true (iE i):=fun Hb ρ ρ1 F σ H x d f S r ho e Q q=>by
 obtain ⟨F',S'⟩:=S.item r ho e
 exact q _ F' S' List.length_set fun j hj=>List.getElem?_set_ne fun z=>hj (by rw [z]; exact List.mem_singleton.mpr rfl)
theorem gR {cl:Nat→Addr} {K:PySem.W.Frag} {tg:List Nat}:fo cl tg false (gTup K tg.length (gNames tg)):=fun Hb ρ ρ1 F σ H x d f S r ho e Q q=>by
 cases d with
 | tup ds =>
  have e:(if ds.length=tg.length∧(D.tup ds).imm=true then some ((tg.zip ds).foldl (fun t p=>t.set p.1 (some (p.2,true))) ρ) else if ds.length=tg.length then eL ρ tg ds else none)=some ρ1:=e
  split at e
  ·rename_i hc
   injection e with e
   subst e
   obtain ⟨a,vs,ev,ha,r⟩:=r
   have hi:immL ds=true:=hc.2
   obtain ⟨F',S'⟩:=SOK.setImms (tg:=tg) S r hi
   exact ⟨a,vs,ev,.inl (.inl ha),by rw [r.len]; exact hc.1,iD (by rw [r.len]; exact hc.1) (q _ F' S' set_len fun j hj=>g0 hj)⟩
  ·split at e
   ·rename_i hc
    obtain ⟨a,vs,ev,ha,r⟩:=r
    obtain ⟨F',S'⟩:=SOK.setParts (tg:=tg) S r ho e
    exact ⟨a,vs,ev,.inl (.inl ha),by rw [r.len]; exact hc,iD (by rw [r.len]; exact hc) (q _ F' S' set_len fun j hj=>g0 hj)⟩
   ·injection e
 | non=>injection e
 | bl _=>injection e
 | int _=>injection e
 | str _=>injection e
 | lst _=>injection e
 | dK _=>injection e
 | dT _=>injection e
 | obj _ _=>injection e
inductive FW (cl:Nat→Addr) (B:Hp) (t:Env→D→Out) (xs:List D) (R0:Out) (ws:List Nat) (σ:L2.St) (i:Nat) (σ':L2.St) (H':Hp):Prop
 | mk (ρi:Env) (Fi:Nat→List Addr) (S:SOK cl B ρi Fi σ' H') (e:forL t (xs.drop i) ρi=R0) (fr:∀ j,j∉ws→σ'[j]?=σ[j]?)
section
variable {X:Cx} {cl:Nat→Addr} {H0 H H1:Hp} {ρ:Env} {F:Nat→List Addr} {σ:L2.St} {k:Kd} {tg wb:List Nat} {one:Bool} {g:TG} {f:Env→Out} {xs:List D} {D':Ends} {J:It}
theorem for_core (S1:SOK cl H0 ρ F σ H1) (hB:fo cl tg one g)
  (hgo:∀ i H',Same (reb H1 (aK ρ k) F) H'→i < xs.length→J.go i H')
  (hyd:∀ i H' x H'',Same (reb H1 (aK ρ k) F) H'→J.yld i H' x H''→i < xs.length→Same H' H''∧∃ d fd,xs[i]?=some d∧Rep cl H'' d x fd∧∀ b∈fd,reb H1 (aK ρ k) F b≠none)
  (hst:∀ i H',Same (reb H1 (aK ρ k) F) H'→xs.length≤i→J.stop i H')
  (q:fV cl H0 σ (tg++wb) D' (restO ρ (aK ρ k) (tg++wb) (forL (bT tg one f) xs (aK ρ k)))) :
  ∃ W:Nat→Nat→L2.St→Hp→Prop,(∃ m,W 0 m σ H1)∧∀ i m σ H,W i m σ H →
   (J.stop i H∧D'.nx σ H)∨(J.go i H∧∃ N:L2.St→Hp→Prop,(∀ σ' H',N σ' H'→∃ m',m' < m∧W (i+1) m' σ' H') ∧
    ∀ x H',J.yld i H x H'→g x σ H' fun σ2 H2=>∃ ρ2,tSd cl ρ2 wb (f ρ2) { D' with nx:=N,ct:=N,bk:=D'.nx } σ2 H2):=by
 have L:=lent_of ρ k
 have R:=S1.rebase L
 have back:∀ {ρ':Env} {F':Nat→List Addr} {σ':L2.St} {H':Hp},SOK cl (reb H1 (aK ρ k) F) ρ' F' σ' H'→(∀ j,j∉tg++wb→σ'[j]?=σ[j]?)→fV cl H0 σ (tg++wb) D' (.nx (rest ρ (aK ρ k) ρ' (tg++wb)))→D'.nx σ' H':=fun {ρ' F' σ' H'} S' fr q=>by
  obtain ⟨F'',S''⟩:=S1.restore L S' fr
  exact q σ' H' F'' S'' fr
 refine ⟨fun i m σ' H'=>m=xs.length - i∧i≤xs.length∧FW cl (reb H1 (aK ρ k) F) (bT tg one f) xs (forL (bT tg one f) xs (aK ρ k)) (tg++wb) σ i σ' H',
  ⟨xs.length,rfl,Nat.zero_le _,aK ρ k,F,R,rfl,fun _ _=>rfl⟩, ?_⟩
 intro i m σ' H' hh_
 refine zz fun P_ k_=>?_
 obtain ⟨em,hi,hh_⟩:=hh_
 obtain ⟨ρi,Fi,Si,e,fr⟩:=hh_
 refine k_ ?_
 subst em
 by_cases hlt:i < xs.length
 ·refine .inr ⟨hgo i H' Si.same hlt,FW cl (reb H1 (aK ρ k) F) (bT tg one f) xs (forL (bT tg one f) xs (aK ρ k)) (tg++wb) σ (i+1),
   fun σ2 H2 h=>⟨xs.length - (i+1),by (clear S1 hB hgo hyd hst q L R back hi Si e fr h; omega),rfl,hlt,h⟩,fun x H'' y=>?_⟩
  refine zz fun P_ k_=>?_
  obtain ⟨eH,d,fd,ed,rd,hd⟩:=hyd i H' x H'' Si.same y hlt
  refine k_ ?_
  have Si:=Si.step eH
  have edrop:xs.drop i=d::xs.drop (i+1):=by
   rw [List.drop_eq_getElem_cons hlt]
   rw [List.getElem?_eq_getElem hlt] at ed
   rw [Option.some.inj ed]
  rw [edrop] at e
  rw [← e] at q
  cases hb:bv ρi tg one d .old with
  | none =>
   have ht:bT tg one f ρi d=.bad:=by unfold bT; rw [hb]
   simp only [forL,ht] at q
   exact (show False from q).elim
  | some ρ1 =>
   have ht:bT tg one f ρi d=f ρ1:=by unfold bT; rw [hb]
   refine hB _ ρi ρ1 Fi σ' H'' x d fd Si rd hd hb _ fun σ2 F2 S2 _ fr2=>⟨ρ1,_,F2,S2, ?_⟩
   have fr3:∀ {σ3:L2.St},(∀ j,j∉wb→σ3[j]?=σ2[j]?)→∀ j,j∉tg++wb→σ3[j]?=σ[j]?:=fun {σ3} h3 j hj =>
    ((h3 j fun z=>hj (List.mem_append_right _ z)).trans (fr2 j fun z=>hj (List.mem_append_left _ z))).trans (fr j hj)
   cases hf:f ρ1 with
   | nx ρ2 =>
    simp only [forL,ht,hf] at e
    exact fun σ3 H3 F3 S3 h3=>⟨ρ2,F3,S3,e,fr3 h3⟩
   | ct ρ2 =>
    simp only [forL,ht,hf] at e
    exact fun σ3 H3 F3 S3 h3=>⟨ρ2,F3,S3,e,fr3 h3⟩
   | bk ρ2 =>
    simp only [forL,ht,hf] at q
    exact fun σ3 H3 F3 S3 h3=>back S3 (fr3 h3) q
   | rt x =>
    simp only [forL,ht,hf] at q
    refine fun v H3 fp s3 r3 n3 h3=>q v H3 fp (fun b o hbo=>s3 b o ((reb_sub S1 L (by rw [hbo]; simp)).trans hbo)) r3 n3 fun a ha=>⟨?_,(h3 a ha).2⟩
    have z:=(h3 a ha).1
    cases qa:H0 a with
    | none=>rfl
    | some y =>
     have:=reb_sub S1 L (a:=a) (by rw [qa]; simp)
     rw [z,qa] at this
     injection this
   | ex x=>simp only [forL,ht,hf] at q; exact (show False from q).elim
   | bad=>simp only [forL,ht,hf] at q; exact (show False from q).elim
 ·have ei:i=xs.length:=by (clear S1 hB hgo hyd hst q L R back Si e fr; omega)
  refine .inl ⟨hst i H' Si.same (by exact Nat.not_lt.mp ‹_›), ?_⟩
  subst ei
  rw [List.drop_length] at e
  rw [← e] at q
  exact back Si fr q
end
end Vi
namespace Vi
open PySem PySem.Spec PyProof.Rows L2
section
variable {X:Cx} {cl:Nat→Addr} {H0 H H1:Hp} {ρ:Env} {F:Nat→List Addr} {σ:L2.St} {k:Kd} {tg:List Nat} {one:Bool} {g:TG} {xs:List D} {J:It}
theorem SOK.allOld (S:SOK cl H0 ρ F σ H1):SOK cl H1 (ρ.map fun e=>e.map fun p=>(p.1,false)) F σ H1:=by
 have look:∀ {j:Nat} {d:D} {o:Bool},(ρ.map fun e=>e.map fun (p:D × Bool)=>(p.1,false))[j]?=some (some (d,o))→o=false∧∃ o',ρ[j]?=some (some (d,o')):=fun {j d o} h=>by
  rw [List.getElem?_map] at h
  cases e:ρ[j]? with
  | none=>rw [e] at h; injection h
  | some y =>
   rw [e] at h
   cases y with
   | none=>(injection h with h; injection h)
   | some p=>obtain ⟨d',o'⟩:=p; cases h; exact ⟨rfl,o',rfl⟩
 refine ⟨Same.refl _,by simpa using S.len,fun j d o h=>?_,fun j d h=>?_,fun i j d e o hij h h'=>?_,fun j d h=>?_⟩
 ·obtain ⟨_,o',e⟩:=look h
  exact S.rep j d o' e
 ·cases (look h).1
 ·cases (look h).1
 ·obtain ⟨_,o',e⟩:=look h
  exact S.dom e
theorem SOK.frame {σ':L2.St} (S:SOK cl H0 ρ F σ H) (hl:σ'.length=σ.length) (h:∀ (i:Nat) (x:D × Bool),ρ[i]?=some (some x)→σ'[i]?=σ[i]?):SOK cl H0 ρ F σ' H :=
 ⟨S.same,hl.trans S.len,fun i d o e=>by obtain ⟨v,h1,r⟩:=S.rep i d o e; exact ⟨v,by rw [h i _ e]; exact h1,r⟩,S.own,S.dis,S.old⟩
theorem forget_frame:∀ {ow:List Nat} {σ:L2.St} {j:Nat},j∉ow→(dY ow σ)[j]?=σ[j]?:=by
 intro x_0
 induction x_0 with
 | nil =>
  intro _ _ _
  exact rfl
 | cons i r ih_ =>
  intro σ j h
  show (dY r (σ.set i none))[j]?=_
  rw [ih_ fun z=>h (List.mem_cons_of_mem _ z),List.getElem?_set_ne fun z=>h (by rw [z]; exact List.mem_cons_self)]
theorem ji {j:Nat} {x:D × Bool} (h:(inComp ρ tg)[j]?=some (some x)):j∉tg:=(cQ h).2
theorem SOK.inComp (S:SOK cl H0 ρ F σ H1):SOK cl H1 (inComp ρ tg) F (dY tg σ) H1 :=
 SOK.frame (S.allOld.drop tg) (e8 _ _) fun i x e=>forget_frame (ji e)
theorem RepL.snoc {H:Hp} {l:List D} {vs:List V} {f g:List Addr} {d:D} {v:V} (h:RepL cl H l vs f) (r:Rep cl H d v g):RepL cl H (l++[d]) (vs++[v]) (f++g):=by
 refine h.append ?_
 unfold RepL
 exact ⟨v,[],g,[],rfl,by simp,r,by unfold RepL; exact ⟨rfl,rfl⟩⟩
theorem compL_cons {f:D→R (Option (D × Kd))} {d:D} {r rs:List D} {b:Bool} (h:ca f (d::r)=.ok (rs,b)):(f d=.ok none∧ca f r=.ok (rs,b)) ∨
  ∃ y k rs' b',f d=.ok (some (y,k))∧ca f r=.ok (rs',b')∧rs=y::rs'∧(k=.sto []∧b=b'∨k=.old∧b=false):=by
 cases hd:f d with
 | ok o =>
  cases o with
  | none=>simp only [ca,hd] at h; exact .inl ⟨rfl,h⟩
  | some yk =>
   obtain ⟨y,k⟩:=yk
   cases k with
   | bor=>simp only [ca,hd] at h; injection h
   | old =>
    simp only [ca,hd] at h
    cases hc:ca f r with
    | ok p =>
     obtain ⟨p1,p2⟩:=p
     rw [hc] at h
     injection h with h; injection h with h1 h2
     exact .inr ⟨y,_,p1,p2,rfl,rfl,h1.symm,.inr ⟨rfl,h2.symm⟩⟩
    | ex z=>rw [hc] at h; injection h
    | bad=>rw [hc] at h; injection h
   | sto is =>
    cases is with
    | cons _ _=>simp only [ca,hd] at h; injection h
    | nil =>
     simp only [ca,hd] at h
     cases hc:ca f r with
     | ok p =>
      obtain ⟨p1,p2⟩:=p
      rw [hc] at h
      injection h with h; injection h with h1 h2
      exact .inr ⟨y,_,p1,p2,rfl,rfl,h1.symm,.inl ⟨rfl,h2.symm⟩⟩
     | ex z=>rw [hc] at h; injection h
     | bad=>rw [hc] at h; injection h
 | ex z=>simp only [ca,hd] at h; injection h
 | bad=>simp only [ca,hd] at h; injection h
theorem turnC_ok {c:Env→R Bool} {el:Env→R (D × Kd)} {d:D} {o:Option (D × Kd)} (h:fq ρ tg one c el d=.ok o) :
  ∃ ρ1,bv (inComp ρ tg) tg one d .old=some ρ1∧((c ρ1=.ok false∧o=none)∨(c ρ1=.ok true∧∃ y,el ρ1=.ok y∧o=some y)):=by
 unfold fq at h
 cases hb:bv (inComp ρ tg) tg one d .old with
 | none=>rw [hb] at h; injection h
 | some ρ1 =>
  rw [hb] at h
  refine ⟨ρ1,rfl, ?_⟩
  cases hc:c ρ1 with
  | ok t =>
   cases t with
   | false=>simp only [hc] at h; injection h with h; exact .inl ⟨rfl,h.symm⟩
   | true =>
    simp only [hc] at h
    cases he:el ρ1 with
    | ok y=>rw [he] at h; injection h with h; exact .inr ⟨rfl,y,rfl,h.symm⟩
    | ex z=>rw [he] at h; injection h
    | bad=>rw [he] at h; injection h
  | ex z=>simp only [hc] at h; injection h
  | bad=>simp only [hc] at h; injection h
inductive CW (cl:Nat→Addr) (H1:Hp) (ρ:Env) (σ:L2.St) (tg:List Nat) (f:D→R (Option (D × Kd))) (xs all:List D) (b:Bool) (a:Addr) (i m:Nat) (ys:List V) (σ2:L2.St) (H2:Hp):Prop
 | mk (em:m=xs.length - i) (hi:i≤xs.length) (s2:Same H1 H2) (h2:H2 a=some (.lst ys)) (hyl:ys.length≤i) (hlen:σ2.length=σ.length) (fr:∀ j,j∉tg→σ2[j]?=(dY tg σ)[j]?)
  (done:List D) (fpd:List Addr) (b0:Bool) (rs:List D) (b1:Bool) (rd:RepL cl H2 done ys fpd) (naf:a∉fpd) (hb0:b0=true→fpd.Nodup∧∀ x∈fpd,H1 x=none∧NF H2 x) (hrs:ca f (xs.drop i)=.ok (rs,b1)) (eall:all=done++rs) (eb:b=(b0 && b1))
theorem comp_core {cnd:Env→R Bool} {el:Env→R (D × Kd)} {tc:TT} {te:TE} {all:List D} {b:Bool} {Q:VK} (S1:SOK cl H0 ρ F σ H1) (s1:Same H H1) (hB:fo cl tg one g)
  (hgo:∀ i H',Same H1 H'→i < xs.length→J.go i H')
  (hyd:∀ i H' x H'',Same H1 H'→J.yld i H' x H''→i < xs.length→Same H' H''∧∃ d fd,xs[i]?=some d∧Rep cl H'' d x fd∧∀ b∈fd,H1 b≠none)
  (hst:∀ i H',Same H1 H'→xs.length≤i→J.stop i H') (hl:xs.length≤1000000)
  (hT:∀ ρ t σ H Q,cnd ρ=.ok t→tTd cl ρ t σ H Q→tc σ H Q) (hE:∀ ρ d k σ H Q,el ρ=.ok (d,k)→tD cl ρ d k σ H Q→te σ H Q)
  (hr:ca (fq ρ tg one cnd el) xs=.ok (all,b))
  (q:∀ v H' fp,Same H H'→Rep cl H' (.lst all) v fp→KOk ρ F H H0 H' fp (if b=true then .sto [] else .bor)→Q v H') :
  ∀ a,H1 a=none→∃ W:Nat→Nat→List V→L2.St→Hp→Prop,(∃ m,W 0 m [] (dY tg σ) (upd H1 a (.lst [])))∧∀ i m ys σ2 H2,W i m ys σ2 H2 →
   H2 a=some (.lst ys)∧((J.stop i H2∧Q (.ref a) H2)∨(J.go i H2∧∀ x H3,J.yld i H2 x H3→g x σ2 H3 fun σ4 H4=>tc σ4 H4 fun b H5 =>
    if b=true then te σ4 H5 fun y H6=>H6 a=some (.lst ys)∧ys.length < sizeLine∧∃ m',m' < m∧W (i+1) m' (ys++[y]) σ4 (upd H6 a (.lst (ys++[y])))
    else ∃ m',m' < m∧W (i+1) m' ys σ4 H5)):=by
 intro a ha
 have S0:=S1.inComp (tg:=tg)
 refine ⟨CW cl H1 ρ σ tg (fq ρ tg one cnd el) xs all b a,
  ⟨xs.length,rfl,Nat.zero_le _,Same.new ha,ao,Nat.le_refl _,e8 _ _,fun _ _=>rfl,[],[],true,all,b,by unfold RepL; exact ⟨rfl,rfl⟩,List.not_mem_nil,fun _=>⟨List.nodup_nil,fun _ h=>nomatch h⟩,hr,rfl,rfl⟩,fun i m ys σ2 H2 h=>zw fun P_ k_=>?_⟩
 obtain ⟨em,hi,s2,h2,hyl,hlen,fr,done,fpd,b0,rs,b1,rd,naf,hb0,hrs,eall,eb⟩:=h
 subst em
 refine k_ ⟨h2, ?_⟩
 clear k_ P_
 by_cases hlt:i < xs.length
 ·refine .inr ⟨hgo i H2 s2 hlt,fun x H3 y=>zw fun P_ k_=>?_⟩
  obtain ⟨eH,d,fd,ed,rx,hd⟩:=hyd i H2 x H3 s2 y hlt
  replace hb0:b0=true→fpd.Nodup∧∀ x∈fpd,H1 x=none∧NF H3 x:=fun hb=>⟨(hb0 hb).1,fun x hx=>⟨((hb0 hb).2 x hx).1,((hb0 hb).2 x hx).2.same eH (rd.dom x hx)⟩⟩
  replace rd:=rd.same eH
  replace h2:=eH a _ h2
  replace s2:=s2.trans eH
  have edrop:xs.drop i=d::xs.drop (i+1):=by
   rw [List.drop_eq_getElem_cons hlt]
   rw [List.getElem?_eq_getElem hlt] at ed
   rw [Option.some.inj ed]
  rw [edrop] at hrs
  have S2:SOK cl H1 (inComp ρ tg) F σ2 H3:=SOK.frame (S0.step s2) (by rw [hlen,e8]) fun i x e=>fr i (ji e)
  rcases compL_cons hrs with ⟨ht,hrs⟩ | ⟨yd,ky,rs',b',ht,hrs,ers,kinds⟩
  ·obtain ⟨ρ1,hb,⟨hcn,_⟩ | ⟨_,_,_,e⟩⟩:=turnC_ok ht
   ·exact k_ <| hB H1 _ ρ1 F σ2 H3 x d fd S2 rx hd hb _ fun σ4 F4 S4 len4 fr4=>hT ρ1 false σ4 H3 _ hcn ⟨H1,F4,S4,fun H5 s5=>iteF ⟨xs.length - (i+1),Nat.sub_succ_lt_self _ _ hlt,rfl,hlt,s2.trans s5,s5 a _ h2,Nat.le_succ_of_le hyl,len4.trans hlen,fun j hj=>(fr4 j hj).trans (fr j hj),done,fpd,b0,rs,b1,rd.same s5,naf,fun hb=>⟨(hb0 hb).1,fun x hx=>⟨((hb0 hb).2 x hx).1,((hb0 hb).2 x hx).2.same s5 (rd.dom x hx)⟩⟩,hrs,eall,eb⟩⟩
   ·injection e
  ·obtain ⟨ρ1,hb,⟨_,e⟩ | ⟨hcn,_,hel,e⟩⟩:=turnC_ok ht
   ·injection e
   injection e with e
   subst e
   refine k_ <| hB H1 _ ρ1 F σ2 H3 x d fd S2 rx hd hb _ fun σ4 F4 S4 len4 fr4=>hT ρ1 true σ4 H3 _ hcn ⟨H1,F4,S4,fun H5 s5=>iteT (hE ρ1 yd ky σ4 H5 _ hel ⟨H1,F4,S4.step s5,fun v H6 fp s6 r6 k6=>?_⟩)⟩
   have ha6:H6 a=some (.lst ys):=s6 a _ (s5 a _ h2)
   have nafp:a∉fp:=fun z=>by
    rcases kinds with ⟨e,_⟩ | ⟨e,_⟩
    ·subst e
     rcases k6.2.2.1 a z with w | ⟨_,w,_⟩
     ·rw [s5 a _ h2] at w; injection w
     ·cases w
    ·subst e
     exact k6 a z ha
   have ne:∀ c∈fpd++fp,c≠a:=fun c hc e=>by
    rw [e] at hc
    exact (List.mem_append.mp hc).elim naf nafp
   have s26:Same H3 H6:=s5.trans s6
   have nn:a∉fpd++fp:=fun z=>(List.mem_append.mp z).elim naf nafp
   have fin:∃ c0 c1,(c0=true→(fpd++fp).Nodup∧∀ x∈fpd++fp,H1 x=none∧NF (upd H6 a (.lst (ys++[v]))) x)∧ca (fq ρ tg one cnd el) (xs.drop (i+1))=.ok (rs',c1)∧b=(c0 && c1):=by
    rcases kinds with ⟨e,e1⟩ | ⟨e,e1⟩
    ·subst e
     refine ⟨b0,b',fun hb=>?_,hrs,e1 ▸ eb⟩
     have m3:=k6.2.2.1
     have fresh:∀ x∈fp,H5 x=none:=fun x hx=>(m3 x hx).elim id fun w=>by obtain ⟨_,w,_⟩:=w; cases w
     refine ⟨List.nodup_append.mpr ⟨(hb0 hb).1,k6.1,fun x hx y hy e=>(rd.same s5).dom x hx (fresh x (e ▸ hy))⟩,fun x hx=>?_⟩
     rcases List.mem_append.mp hx with z | z
     ·exact ⟨((hb0 hb).2 x z).1,fun o u w=>(((hb0 hb).2 x z).2.same s26 (rd.dom x z)) o u ((aj (ne x hx)).symm.trans w)⟩
     ·exact ⟨(s2.trans s5).free (fresh x z),fun o u w=>k6.2.2.2 x z o u ((aj (ne x hx)).symm.trans w)⟩
    ·exact ⟨false,b',fun hb=>Bool.noConfusion hb,hrs,by rw [eb,e1,Bool.and_false]; rfl⟩
   obtain ⟨c0,c1,f1,f2,f3⟩:=fin
   exact ⟨ha6,Nat.lt_of_le_of_lt hyl (Nat.lt_of_lt_of_le hlt (gZ hl)),xs.length - (i+1),Nat.sub_succ_lt_self _ _ hlt,rfl,hlt,fun c o e=>by
    rw [aj (bq e ha)]; exact s26 c o (s2 c o e),ao,by rw [List.length_append]; exact Nat.succ_le_succ hyl,len4.trans hlen,fun j hj=>(fr4 j hj).trans (fr j hj),done++[yd],fpd++fp,c0,rs',c1,
    ((rd.same s26).snoc r6).keep ⟨fun c hc=>aj (ne c hc),fun c vs e=>(aj fun z=>by rw [z,ha6] at e; (injection e with e; injection e)).trans e⟩,nn,f1,f2,by rw [eall,ers,List.append_assoc]; rfl,f3⟩
 ·have ei:i=xs.length:=by (clear S1 s1 hB hgo hyd hst hl hT hE hr q ha S0 s2 h2 hyl hlen fr rd naf hb0 hrs eall eb; omega)
  subst ei
  rw [List.drop_length] at hrs
  simp only [ca,R.ok.injEq,Prod.mk.injEq] at hrs
  obtain ⟨ers,eb1⟩:=hrs
  subst ers; subst eb1
  rw [List.append_nil] at eall
  subst eall
  refine .inl ⟨hst _ H2 s2 (Nat.le_refl _),q (.ref a) H2 (a::fpd) (s1.trans s2) ?_ ?_⟩
  ·unfold Rep
   exact ⟨a,ys,fpd,rfl,rfl,rd,.inl h2⟩
  ·have eb':b=b0:=by rw [eb]; simp
   rw [eb']
   cases b0 with
   | false=>rw [if_neg Bool.false_ne_true]; exact True.intro
   | true =>
    rw [if_pos rfl]
    obtain ⟨n1,n2⟩:=hb0 rfl
    refine ⟨List.nodup_cons.mpr ⟨naf,n1⟩,fun _ h=>(nomatch h),fun x hx=>.inl ?_,fun x hx=>?_⟩
    ·rcases List.mem_cons.mp hx with z | z
     ·rw [z]; exact s1.free ha
     ·exact s1.free (n2 x z).1
    ·rcases List.mem_cons.mp hx with z | z
     ·rw [z]; intro o u w; rw [h2] at w; (injection w with w; injection w)
     ·exact (n2 x z).2
end
end Vi
namespace Vi
open PySem PySem.Spec PyProof.Rows L2
structure JOk (cl:Nat→Addr) (J:It) (xs:List D) (B:Hp):Prop where
 go:∀ i H',Same B H'→i < xs.length→J.go i H'
 yld:∀ i H' x H'',Same B H'→J.yld i H' x H''→i < xs.length→Same H' H''∧∃ d fd,xs[i]?=some d∧Rep cl H'' d x fd∧∀ b∈fd,B b≠none
 stop:∀ i H',Same B H'→xs.length≤i→J.stop i H'
inductive tI (cl:Nat→Addr) (ρ:Env) (xs:List D) (k:Kd) (σ:L2.St) (H:Hp) (R:It→Hp→Prop):Prop
 | mk (H0:Hp) (F:Nat→List Addr) (S:SOK cl H0 ρ F σ H) (q:∀ J H1 fp,Same H H1→KOk ρ F H H0 H1 fp k →
  (∀ B:Hp,(∀ b∈fp,B b=H1 b)→(∀ a vs,H1 a=some (.tup vs)→B a=some (.tup vs))→JOk cl J xs B)→R J H1)
theorem pi_imp {X:Cx} {tg iter:Expr} {t t':TI} (h:PI X tg iter t) (i:∀ σ H R,t' σ H R→t σ H R):PI X tg iter t':=fun pins s σ H R I q=>h pins s σ H R I (i σ H R q)
section
variable {X:Cx} {cl:Nat→Addr} {ρ:Env} {k:Kd} {tg wb:List Nat} {one:Bool} {g:TG} {f:Env→Out} {xs:List D} {tgE iter:Expr}
theorem i_list (hi:PE X iter (tD cl ρ (.lst xs) k)):PI X tgE iter (tI cl ρ xs k) :=
 pi_imp (pi_list hi) fun σ H R ⟨H0,F,S,q⟩=>⟨H0,F,S,fun x H1 fp s1 r1 q1=>by
  refine zz fun P_ k_=>?_
  obtain ⟨a,vs,f',e,ef,r,hpp⟩:=r1
  refine k_ ?_
  have rd0:SqL X.K H1 a vs:=by
   rcases hpp with h | ⟨o,h⟩
   ·exact .inl (.inl h)
   ·exact .inl (.inr ⟨o,h⟩)
  refine ⟨a,e,⟨vs,rd0⟩,q _ H1 fp s1 q1 fun B hB tB=>?_⟩
  have rd:∀ {H':Hp},Same B H'→SqL X.K H' a vs:=fun {H'} s=>by
   have e1:B a=H1 a:=hB a (by rw [ef]; exact List.mem_cons_self)
   rcases hpp with h | ⟨o,h⟩
   ·exact .inl (.inl (s a _ (e1.trans h)))
   ·exact .inl (.inr ⟨o,s a _ (e1.trans h)⟩)
  refine ⟨fun i H' s hlt=>?_,fun i H' x H'' s y hlt=>?_,fun i H' s hle=>⟨vs,rd s,by rw [r.len]; exact hle⟩⟩
  ·have hv:i < vs.length:=by rw [r.len]; exact hlt
   exact ⟨vs,vs[i],rd s,by rw [List.getElem?_eq_getElem hv]⟩
  ·obtain ⟨eH,y⟩:=y
   subst eH
   refine zz fun P_ k_=>?_
   obtain ⟨v,fv,e1,e2,e3⟩:=r.get (List.getElem?_eq_getElem hlt)
   refine k_ ?_
   have e4:=y vs (rd s)
   rw [e4] at e1
   (injection e1 with e1; subst e1)
   have offv:∀ b∈fv,B b=H1 b:=fun b hb=>hB b (by rw [ef]; exact List.mem_cons_of_mem _ (e3 b hb))
   refine ⟨Same.refl _,xs[i],fv,List.getElem?_eq_getElem hlt,e2.keep ⟨fun b hb=>?_,fun b vs h=>s b _ (tB b vs h)⟩,fun b hb=>by rw [offv b hb]; exact e2.dom b hb⟩
   cases qb:H1 b with
   | none=>exact absurd qb (e2.dom b hb)
   | some o=>exact s b o ((offv b hb).trans qb)⟩
theorem i_tup (hi:PE X iter (tD cl ρ (.tup xs) k)):PI X tgE iter (tI cl ρ xs k) :=
 pi_imp (pi_tup hi) fun σ H R ⟨H0,F,S,q⟩=>⟨H0,F,S,fun x H1 fp s1 r1 q1=>by
  obtain ⟨a,vs,e,hpp,r⟩:=r1
  refine ⟨a,e,⟨vs,.inl (.inl hpp)⟩,q _ H1 fp s1 q1 fun B hB tB=>?_⟩
  have rd:∀ {H':Hp},Same B H'→SqT X.K H' a vs:=fun {H'} s=>.inl (.inl (s a _ (tB a vs hpp)))
  refine ⟨fun i H' s hlt=>?_,fun i H' x H'' s y hlt=>?_,fun i H' s hle=>⟨vs,rd s,by rw [r.len]; exact hle⟩⟩
  ·have hv:i < vs.length:=by rw [r.len]; exact hlt
   exact ⟨vs,vs[i],rd s,by rw [List.getElem?_eq_getElem hv]⟩
  ·obtain ⟨eH,y⟩:=y
   subst eH
   obtain ⟨v,fv,e1,e2,e3⟩:=r.get (List.getElem?_eq_getElem hlt)
   have e4:=y vs (rd s)
   rw [e4] at e1
   (injection e1 with e1; subst e1)
   have offv:∀ b∈fv,B b=H1 b:=fun b hb=>hB b (e3 b hb)
   refine ⟨Same.refl _,xs[i],fv,List.getElem?_eq_getElem hlt,e2.keep ⟨fun b hb=>?_,fun b vs h=>s b _ (tB b vs h)⟩,fun b hb=>by rw [offv b hb]; exact e2.dom b hb⟩
   cases qb:H1 b with
   | none=>exact absurd qb (e2.dom b hb)
   | some o=>exact s b o ((offv b hb).trans qb)⟩
theorem eC:∀ (n:Nat) (a s:Int),(bw a s n).length=n:=by
 intro x_0
 induction x_0 with
 | zero =>
  intro _ _
  exact rfl
 | succ n ih_ =>
  intro a s
  show (bw (a+s) s n).length+1=n+1; rw [ih_]
theorem gn:∀ {n:Nat} {a s:Int} {i:Nat},i < n→(bw a s n)[i]?=some (.int (a+i * s))
 | n+1,a,s,0,_=>by show some (D.int a)=_; simp
 | n+1,a,s,i+1,h=>by
  show (bw (a+s) s n)[i]?=_
  rw [gn (by exact Nat.le_of_lt_succ ‹_›)]
  congr 2
  have:((i+1:Nat):Int)=(i:Int)+1:=by rfl
  rw [this,Int.add_mul]
  (clear h this; omega)
noncomputable def teU (cl:Nat→Addr) (el:Env→R (D × Kd)):TE:=fun σ H Q=>∃ ρ d k,el ρ=.ok (d,k)∧tD cl ρ d k σ H Q
noncomputable def tcU (cl:Nat→Addr) (cnd:Env→R Bool):TT:=fun σ H Q=>∃ ρ t,cnd ρ=.ok t∧tTd cl ρ t σ H Q
theorem s_for {body:List Stmt} {pos:Pos} (hp:PassesOwn (model X.prog X.w) X.A X.env X.xe) (hc:X.calm=true) (hi:PI X tgE iter (tI cl ρ xs k)) (hn:noBor k=true) (hg:PG X tgE g) (hB:fo cl tg one g)
  (hb:∀ ρ,PSs X body (tSd cl ρ wb (f ρ))) (hs:∀ x,foldedSetIterable iter X.env x=pure x) :
  PS X (.For tgE iter body [] pos) (tSd cl ρ (tg++wb) (restO ρ (aK ρ k) (tg++wb) (forL (bT tg one f) xs (aK ρ k)))):=by
 have hb':PSs X body (fun D σ H=>∃ ρ,tSd cl ρ wb (f ρ) D σ H):=fun pins s σ H Q I ⟨ρ,h⟩=>hb ρ pins s σ H Q I h
 refine cN (ps_for hp hc hi hg hb' hs) fun D σ H ⟨H0,F,S,q⟩=>⟨H0,F,S,fun J H1 fp s1 q1 j=>?_⟩
 have S1:=S.step s1
 have L:=lent_of ρ k
 have jj:=j (reb H1 (aK ρ k) F) (walk_off S q1 hn s1) fun a vs h=>reb_tup S1 L h
 exact for_core S1 hB jj.go jj.yld jj.stop q
theorem e_comp {elt:Expr} {ifs:List Expr} {sc:Scope} {pos:Pos} {cnd:Env→R Bool} {el:Env→R (D × Kd)} {all:List D} {b:Bool} (hc:X.calm=true) (Sc:eM X sc)
  (how:∀ (i:Nat) (x:Str),X.N[i]?=some x→sc.names.lookup x=some NameKind.local→i∈tg) (hi:PI X tgE iter (tI cl ρ xs k)) (hg:∀ X',InC X sc X'→PG X' tgE g) (hB:fo cl tg one g) (hl:xs.length≤1000000)
  (ht:(ifs=[]∧∀ ρ t,cnd ρ=.ok t→t=true)∨∃ c,ifs=[c]∧∀ X',InC X sc X'→∀ ρ t,cnd ρ=.ok t→PT X' c (tTd cl ρ t)) (he:∀ X',InC X sc X'→∀ ρ d k,el ρ=.ok (d,k)→PE X' elt (tD cl ρ d k))
  (hr:ca (fq ρ tg one cnd el) xs=.ok (all,b)) (hs:∀ x,foldedSetIterable iter X.env x=pure x) :
  PE X (.ListComp elt [⟨tgE,iter,ifs,0⟩] sc pos) (tD cl ρ (.lst all) (if b=true then .sto [] else .bor)):=by
 have he':∀ X',InC X sc X'→PE X' elt (teU cl el):=fun X' hX pins s σ H Q I ⟨ρ,d,k,e,h⟩=>he X' hX ρ d k e pins s σ H Q I h
 have fin:∀ (tc:TT),(∀ ρ t σ H Q,cnd ρ=.ok t→tTd cl ρ t σ H Q→tc σ H Q)→∀ σ H Q,tD cl ρ (.lst all) (if b=true then .sto [] else .bor) σ H Q →
   tComp (tI cl ρ xs k) g tc (teU cl el) tg σ H Q:=fun tc hT σ H Q ⟨H0,F,S,q⟩=>⟨H0,F,S,fun J H1 fp s1 q1 j=>by
  have jj:=j H1 (fun _ _=>rfl) fun _ _ h=>h
  exact comp_core (te:=teU cl el) (S.step s1) s1 hB jj.go jj.yld jj.stop hl hT (fun ρ d k σ H Q e h=>⟨ρ,d,k,e,h⟩) hr q⟩
 rcases ht with ⟨e,ht⟩ | ⟨c,e,ht⟩
 ·exact bj (pe_comp tg hc Sc how hi hg (.inl ⟨e,rfl⟩) he' hs) (fin tAll fun ρ t σ H Q e ⟨_,_,_,q⟩=>by have:=q H (Same.refl H); rw [ht ρ t e] at this; exact this)
 ·exact bj (pe_comp (tc:=tcU cl cnd) tg hc Sc how hi hg (.inr ⟨c,e,fun X' hX pins s σ H Q I ⟨ρ,t,e,h⟩=>ht X' hX ρ t e pins s σ H Q I h⟩) he' hs) (fin (tcU cl cnd) fun ρ t σ H Q e h=>⟨ρ,t,e,h⟩)
theorem s_comp {elt:Expr} {ifs:List Expr} {sc:Scope} {pos spos py:Pos} {cnd:Env→R Bool} {el:Env→R (D × Kd)} {all:List D} {b:Bool} {i:Nat} {y:Str} (hc:X.calm=true) (hN:X.N.Nodup) (hj:X.N[i]?=some y) (hy:Loc X.env.scope y) (Sc:eM X sc)
  (how:∀ (i:Nat) (x:Str),X.N[i]?=some x→sc.names.lookup x=some NameKind.local→i∈tg) (hi:PI X tgE iter (tI cl ρ xs k)) (hg:∀ X',InC X sc X'→PG X' tgE g) (hB:fo cl tg one g) (hl:xs.length≤1000000)
  (ht:(ifs=[]∧∀ ρ t,cnd ρ=.ok t→t=true)∨∃ c,ifs=[c]∧∀ X',InC X sc X'→∀ ρ t,cnd ρ=.ok t→PT X' c (tTd cl ρ t)) (he:∀ X',InC X sc X'→∀ ρ d k,el ρ=.ok (d,k)→PE X' elt (tD cl ρ d k))
  (hr:ca (fq ρ tg one cnd el) xs=.ok (all,b)) (hsw:swapsWith (.ListComp elt [⟨tgE,iter,ifs,0⟩] sc pos) (some (.Name y py)) spos.line X.env=pure true)
  (hf:X.fn y=true∨X.env.scope.names.lookup y=some .local) (hs:∀ x,foldedSetIterable iter X.env x=pure x) :
  PS X (.Assign [.Name y py] (.ListComp elt [⟨tgE,iter,ifs,0⟩] sc pos) spos) (tAsg (tD cl ρ (.lst all) (if b=true then .sto [] else .bor)) (iE i)):=by
 have he':∀ X',InC X sc X'→PE X' elt (teU cl el):=fun X' hX pins s σ H Q I ⟨ρ,d,k,e,h⟩=>he X' hX ρ d k e pins s σ H Q I h
 have fin:∀ (tc:TT),(∀ ρ t σ H Q,cnd ρ=.ok t→tTd cl ρ t σ H Q→tc σ H Q)→∀ D σ H,tAsg (tD cl ρ (.lst all) (if b=true then .sto [] else .bor)) (iE i) D σ H →
   tAsg (tComp (tI cl ρ xs k) g tc (teU cl el) tg) (iE i) D σ H:=fun tc hT D σ H ⟨H0,F,S,q⟩=>⟨H0,F,S,fun J H1 fp s1 q1 j=>by
  have jj:=j H1 (fun _ _=>rfl) fun _ _ h=>h
  exact comp_core (te:=teU cl el) (S.step s1) s1 hB jj.go jj.yld jj.stop hl hT (fun ρ d k σ H Q e h=>⟨ρ,d,k,e,h⟩) hr q⟩
 rcases ht with ⟨e,ht⟩ | ⟨c,e,ht⟩
 ·exact cN (ps_comp tg hc hN hj hy Sc how hi hg (.inl ⟨e,rfl⟩) he' hsw hf hs) (fin tAll fun ρ t σ H Q e ⟨_,_,_,q⟩=>by have:=q H (Same.refl H); rw [ht ρ t e] at this; exact this)
 ·exact cN (ps_comp (tc:=tcU cl cnd) tg hc hN hj hy Sc how hi hg (.inr ⟨c,e,fun X' hX pins s σ H Q I hh_=>(by obtain ⟨ρ,t,e,h⟩:=hh_; exact (ht X' hX ρ t e pins s σ H Q I h))⟩) he' hsw hf hs) (fin (tcU cl cnd) fun ρ t σ H Q e h=>⟨ρ,t,e,h⟩)
end
end Vi
namespace Vi
open PySem PySem.Spec PyProof.Rows L2
section
variable {cl:Nat→Addr} {H0 H H':Hp} {ρ:Env} {F:Nat→List Addr} {σ:L2.St}
theorem SOK.take {i:Nat} {d:D} {v:V} {fp:List Addr} (S:SOK cl H0 ρ F σ H) (hi:i < ρ.length) (r:Rep cl H d v fp) (n:fp.Nodup) (m:∀ a∈fp,H0 a=none∧NF H a) (off:∀ (j:Nat) (x:D × Bool),ρ[j]?=some (some x)→∀ a∈fp,a∉F j) :
  SOK cl H0 (ρ.set i (some (d,true))) (fun j=>if j=i then fp else F j) (σ.set i (some v)) H:=by
 have hiσ:i < σ.length:=by rw [S.len]; exact hi
 have look:∀ {j:Nat} {x:D × Bool},(ρ.set i (some (d,true)))[j]?=some (some x)→(j=i∧x=(d,true))∨(j≠i∧ρ[j]?=some (some x)):=fun {j x} h=>by
  rw [cK hi] at h
  by_cases q:i=j
  ·rw [if_pos q] at h; exact .inl ⟨q.symm,by (injection h with h; injection h with h; subst h); rfl⟩
  ·rw [if_neg q] at h; exact .inr ⟨Ne.symm q,h⟩
 refine ⟨S.same,by simpa using S.len,fun j e o h=>?_,fun j e h=>?_,fun j l e e' o hjl h h'=>?_,fun j e h=>?_⟩
 ·rcases look h with ⟨q,z⟩ | ⟨q,h⟩
  ·(injection z with z; subst z)
   subst q
   exact ⟨v,by rw [cK hiσ,if_pos rfl],by rw [if_pos rfl]; exact r⟩
  ·obtain ⟨w,h1,h2⟩:=S.rep j e o h
   exact ⟨w,by rw [cK hiσ,if_neg (Ne.symm q)]; exact h1,by rw [if_neg q]; exact h2⟩
 ·rcases look h with ⟨q,_⟩ | ⟨q,h⟩
  ·simp only [if_pos q]; exact ⟨n,m⟩
  ·simp only [if_neg q]; exact S.own j e h
 ·rcases look h with ⟨q1,_⟩ | ⟨q,hA⟩
  ·simp only [if_pos q1]
   rcases look h' with ⟨q2,_⟩ | ⟨q',hB⟩
   ·exact absurd (q1.trans q2.symm) hjl
   ·rw [if_neg q']; exact off l _ hB
  ·simp only [if_neg q]
   rcases look h' with ⟨q2,_⟩ | ⟨q',hB⟩
   ·rw [if_pos q2]; exact fun a ha hb=>off j _ hA a hb ha
   ·rw [if_neg q']; exact S.dis j l e e' o hjl hA hB
 ·rcases look h with ⟨_,z⟩ | ⟨q,hA⟩
  ·cases z
  ·simp only [if_neg q]; exact S.old j e hA
theorem SOK.takes:∀ {is:List Nat} {ds:List D} {vs:List V} {fp:List Addr} {ρ:Env} {F:Nat→List Addr} {σ:L2.St},SOK cl H0 ρ F σ H→is.Nodup→(∀ i∈is,i < ρ.length)→RepL cl H ds vs fp→fp.Nodup→(∀ a∈fp,H0 a=none∧NF H a) →
  (∀ (j:Nat) (x:D × Bool),ρ[j]?=some (some x)→∀ a∈fp,a∉F j) →
  ∃ F',SOK cl H0 ((is.zip ds).foldl (fun t p=>t.set p.1 (some (p.2,true))) ρ) F' ((is.zip vs).foldl (fun t p=>t.set p.1 (some p.2)) σ) H:=by
 intro x_0
 induction x_0 with
 | nil =>
  intro ds vs fp ρ F σ S _ _ _ _ _ _
  exact ⟨F,by simpa using S⟩
 | cons i is ih_ =>
  intro x_1
  cases x_1 with
  | nil =>
   intro vs fp ρ F σ S _ _ r _ _ _
   obtain ⟨e,_⟩:=r
   subst e
   exact ⟨F,by simpa using S⟩
  | cons d ds =>
   intro vs fp ρ F σ S nd hl r n m off
   refine zz fun P_ k_=>?_
   obtain ⟨v,vr,f1,f2,e,ef,r1,r2⟩:=r
   refine k_ ?_
   subst e; subst ef
   obtain ⟨n1,n2,n3⟩:=List.nodup_append.mp n
   have S1:=S.take (i:=i) (hl i List.mem_cons_self) r1 n1 (fun a ha=>m a (List.mem_append_left _ ha)) fun j x h a ha=>off j x h a (List.mem_append_left _ ha)
   refine ih_ S1 (List.nodup_cons.mp nd).2 (fun j hj=>by simpa using hl j (List.mem_cons_of_mem _ hj)) r2 n2 (fun a ha=>m a (List.mem_append_right _ ha)) fun j x h a ha hb=>?_
   rw [cK (hl i List.mem_cons_self)] at h
   by_cases q:i=j
   ·rw [if_pos q.symm] at hb
    exact n3 a hb a ha rfl
   ·rw [if_neg q] at h
    rw [if_neg (Ne.symm q)] at hb
    exact off j x h a (List.mem_append_right _ ha) hb
end
section
variable {X:Cx} {cl:Nat→Addr} {ρ:Env} {o e:Expr} {st:Stmt} {pos apos cpos:Pos} {d:D} {k:Kd} {i:Nat} {l ds:List D} {js is:List Nat}
theorem s_unp {n:Nat} (h:PS X st (tAsg (tD cl ρ (.tup ds) (.sto js)) (gTup X.K n (gNames is)))) (hn:n=is.length) (hc:ds.length=is.length∧is.Nodup∧∀ i∈is,i < ρ.length) :
  PS X st (tSd cl ρ is (.nx ((is.zip ds).foldl (fun t p=>t.set p.1 (some (p.2,true))) (js.foldl (fun t j=>t.set j none) ρ)))) :=
 cN h fun D σ H ⟨H0,F,S,q⟩=>⟨H0,F,S,fun v H1 fp s1 r1 hh_=>(by obtain ⟨n1,o1,m1,z1⟩:=hh_; exact (by
  refine zz fun P_ k_=>?_
  obtain ⟨a,vs,ev,ha,r⟩:=r1
  have S1:=(S.step s1).drop js
  obtain ⟨F',S'⟩:=SOK.takes (is:=is) S1 hc.2.1 (fun i hi=>by rw [e9]; exact hc.2.2 i hi) r n1 (fun b hb=>⟨by
   rcases m1 b hb with z | ⟨w,hw,z⟩
   ·exact S.same.free z
   ·obtain ⟨dl,el⟩:=o1 w hw
    exact ((S.own w dl el).2 b z).1,z1 b hb⟩) fun j x hj b hb hF=>by
   obtain ⟨hj,hjs⟩:=cQ hj
   rcases m1 b hb with z | ⟨w,hw,z⟩
   ·exact S.dom hj b hF z
   ·obtain ⟨dl,el⟩:=o1 w hw
    exact S.dis w j dl x.1 x.2 (fun q=>hjs (q ▸ hw)) el hj b z hF
  refine k_ ?_
  exact ⟨a,vs,ev,.inl (.inl ha),by rw [r.len,hn]; exact hc.1,iD (by rw [r.len]; exact hc.1) (q _ H1 F' S' fun j hj=>g0 hj)⟩))⟩
theorem s_app (h : PS X st (iQ (tBM X.K "list" ia (tVar i) (jC (tD cl ρ d (.sto js)) tNil)))) (hl : ρ[i]? = some (some (.lst l, true))) (hc : l.length < 1000000 ∧ i ∉ js) :
  PS X st (tSd cl ρ [] (.nx ((js.foldl (fun t j=>t.set j none) ρ).set i (some (.lst (l++[d]),true))))) :=
 cN h fun D σ H ⟨H0,F,S,q⟩=>by
  obtain ⟨a,vs,f,hv,ha,eF,r⟩:=S.lst hl
  refine ⟨.ref a,hv,.inl ⟨rfl,vs,.inl (.inl ha)⟩,H0,F,S,fun y H1 g s1 r1 hh_=>?_⟩
  obtain ⟨n1,o1,m1,z1⟩:=hh_
  have ha1:=s1 a _ ha
  have nodF:(a::f).Nodup:=eF ▸ (S.own i _ hl).1
  have naf:=(List.nodup_cons.mp nodF).1
  have offg:∀ b∈F i,b∉g:=fun b hb hg=>by
   rcases m1 b hg with z | ⟨w,hw,z⟩
   ·exact S.dom hl b hb z
   ·obtain ⟨dl,el⟩:=o1 w hw
    exact S.dis i w _ dl true (fun q=>hc.2 (q ▸ hw)) hl el b hb z
  have nag:a∉g:=offg a (by rw [eF]; exact List.mem_cons_self)
  have ne:∀ b∈f++g,b≠a:=fun b hb z=>by rw [z] at hb; exact (List.mem_append.mp hb).elim naf nag
  have kp:Keep (f++g) H1 (upd H1 a (.lst (vs++[y]))):=⟨fun b hb=>aj (ne b hb),fun b ws z=>by
   rw [aj (fun w=>by rw [w,ha1] at z; (injection z with z; injection z))]; exact z⟩
  have rl:RepL cl (upd H1 a (.lst (vs++[y]))) (l++[d]) (vs++[y]) (f++g):=((r.same s1).snoc r1).keep kp
  obtain ⟨F',S'⟩:=S.mut (H':=upd H1 a (.lst (vs++[y]))) (d':=.lst (l++[d])) (fp:=a::(f++g)) (is:=js) hl hv hc.2 o1 (by unfold Rep; exact ⟨a,_,_,rfl,rfl,rl,.inl ao⟩)
   (List.nodup_cons.mpr ⟨fun z=>ne a z rfl,List.nodup_append.mpr ⟨(List.nodup_cons.mp nodF).2,n1,fun x hx y hy e=>by subst e; exact offg x (by rw [eF]; exact List.mem_cons_of_mem _ hx) hy⟩⟩)
   (fun b hb=>by
    rcases List.mem_cons.mp hb with z | z
    ·rw [z,eF]; exact .inl List.mem_cons_self
    ·rcases List.mem_append.mp z with z | z
     ·rw [eF]; exact .inl (List.mem_cons_of_mem _ z)
     ·exact .inr (m1 b z))
   (fun b hb o u z=>by
    rcases List.mem_cons.mp hb with w | w
    ·rw [w,ao] at z; (injection z with z; injection z)
    ·rw [aj (ne b w)] at z
     rcases List.mem_append.mp w with w | w
     ·exact (((S.own i _ hl).2 b (by rw [eF]; exact List.mem_cons_of_mem _ w)).2.same s1 (S.dom hl b (by rw [eF]; exact List.mem_cons_of_mem _ w))) o u z
     ·exact z1 b w o u z)
   (fun b hb hd=>by
    rw [aj (fun z=>hb (by rw [z,eF]; exact List.mem_cons_self))]
    cases qb:H b with
    | none=>exact absurd qb hd
    | some o=>exact s1 b o qb)
   (fun b ws z=>by
    have z1:=s1 b _ z
    rw [aj (fun w=>by rw [w,ha1] at z1; (injection z1 with z1; injection z1))]; exact z1)
  exact ⟨a,vs,y,rfl,rfl,ha1,by rw [r.len]; have:=gZ (n:=l.length+1) (by (clear h hl S q hv ha eF r s1 r1 n1 o1 m1 z1 ha1 nodF naf offg nag ne kp rl S'; omega)); assumption,q σ _ F' S' fun _ _=>rfl⟩
theorem mut_list {H0 H:Hp} {F:Nat→List Addr} {σ:L2.St} {l':List D} (S:SOK cl H0 ρ F σ H) (hl:ρ[i]?=some (some (.lst l,true))) {a:Addr} {vs ws:List V} {f f':List Addr} (hv:σ[i]?=some (some (.ref a))) (ha:H a=some (.lst vs)) (eF:F i=a::f)
  (hf:∀ b∈f',b∈f) (nf:f'.Nodup) (r:RepL cl H l' ws f'):∃ F',SOK cl H0 (ρ.set i (some (.lst l',true))) F' σ (upd H a (.lst ws)):=by
 have nodF:(a::f).Nodup:=eF ▸ (S.own i _ hl).1
 have naf:=(List.nodup_cons.mp nodF).1
 have naf':a∉f':=fun z=>naf (hf a z)
 have kp:Keep f' H (upd H a (.lst ws)):=⟨fun b hb=>aj (fun z=>naf' (z ▸ hb)),fun b us z=>by
  rw [aj (fun w=>by rw [w,ha] at z; (injection z with z; injection z))]; exact z⟩
 exact S.mut (H':=upd H a (.lst ws)) (d':=.lst l') (fp:=a::f') (is:=[]) hl hv (by simp) (fun _ h=>nomatch h) (by unfold Rep; exact ⟨a,_,_,rfl,rfl,r.keep kp,.inl ao⟩)
  (List.nodup_cons.mpr ⟨naf',nf⟩)
  (fun b hb=>.inl (by
   rcases List.mem_cons.mp hb with z | z
   ·rw [z,eF]; exact List.mem_cons_self
   ·rw [eF]; exact List.mem_cons_of_mem _ (hf b z)))
  (fun b hb o u z=>by
   rcases List.mem_cons.mp hb with w | w
   ·rw [w,ao] at z; (injection z with z; injection z)
   ·rw [aj (fun (y:b=a)=>naf' (by rw [← y]; exact w))] at z
    exact ((S.own i _ hl).2 b (by rw [eF]; exact List.mem_cons_of_mem _ (hf b w))).2 o u z)
  (fun b hb hd=>aj (fun z=>hb (by rw [z,eF]; exact List.mem_cons_self)))
  (fun b us z=>by rw [aj (fun w=>by rw [w,ha] at z; (injection z with z; injection z))]; exact z)
theorem RepL.reverse {H:Hp}:∀ {l:List D} {vs:List V} {f:List Addr},RepL cl H l vs f→immL l=true→RepL cl H l.reverse vs.reverse []:=by
 intro x_0
 induction x_0 with
 | nil =>
  intro _ _ h _
  obtain ⟨e,_⟩:=h
  subst e
  exact ⟨rfl,rfl⟩
 | cons x r ih_ =>
  intro vs f h hi
  obtain ⟨v,vr,f1,f2,e,ef,r1,r2⟩:=h
  subst e
  have hi':x.imm=true∧immL r=true:=by simpa [immL] using hi
  have e1:=r1.imm hi'.1
  subst e1
  rw [List.reverse_cons,List.reverse_cons]
  exact (ih_ r2 hi'.2).snoc r1
theorem s_rvs (h : PS X st (iQ (tBM0 X.K "list" fM (tVar i)))) (hl : ρ[i]? = some (some (.lst l, true))) (hi : immL l = true) : PS X st (tSd cl ρ [] (.nx (ρ.set i (some (.lst l.reverse, true))))) :=
 cN h fun D σ H ⟨H0,F,S,q⟩=>by
  refine zz fun P_ k_=>?_
  obtain ⟨a,vs,f,hv,ha,eF,r⟩:=S.lst hl
  obtain ⟨F',S'⟩:=mut_list S hl hv ha eF (f':=[]) (fun _ h=>nomatch h) List.nodup_nil (r.reverse hi)
  refine k_ ?_
  exact ⟨.ref a,hv,.inl ⟨rfl,vs,.inl (.inl ha)⟩,a,vs,rfl,rfl,ha,q σ _ F' S' fun _ _=>rfl⟩
end
section
variable {P:Program} {w:World} {K:PySem.W.Frag} {mg:Str→Option Value} {base:Heap} {cl:Nat→Addr}
theorem start_sok {H:Hp} {ds:List D} {vs:List V} {fp:List Addr} {N:List Str} {n:Nat} (r:RepL cl H ds vs fp) (hn:N.length=n) (hl:ds.length≤n) :
  ∃ F,SOK cl H (ds.map (fun d=>some (d,false))++List.replicate (n - ds.length) none) F (L2.dJ N vs) H:=by
 have key:∀ i:Nat,∃ f:List Addr,∀ d,ds[i]?=some d→∃ v,vs[i]?=some v∧Rep cl H d v f:=fun i=>by
  cases e:ds[i]? with
  | none=>exact ⟨[],fun d h=>nomatch h⟩
  | some d =>
   obtain ⟨v,f,h1,h2,_⟩:=r.get e
   exact ⟨f,fun d' h=>by (injection h with h; subst h); exact ⟨v,h1,h2⟩⟩
 refine ⟨fun i=>Classical.choose (key i), ?_⟩
 have look:∀ {j:Nat} {d:D} {o:Bool},(ds.map (fun d=>some (d,false))++List.replicate (n - ds.length) none)[j]?=some (some (d,o))→o=false∧ds[j]?=some d:=fun {j d o} h=>by
  by_cases hj:j < ds.length
  ·rw [List.getElem?_append_left (by simpa using hj),List.getElem?_map] at h
   cases e:ds[j]? with
   | none=>rw [e] at h; injection h
   | some x=>rw [e] at h; cases h; exact ⟨rfl,rfl⟩
  ·rw [List.getElem?_append_right (by simpa using hj),List.getElem?_replicate] at h
   split at h <;> (first | injection h; done | injection h with h; injection h; done)
 refine ⟨Same.refl _, ?_,fun j d o h=>?_,fun j d h=>?_,fun i j d e o _ h=>?_,fun j d h a ha=>?_⟩
 ·unfold L2.dJ
  simp only [List.length_append,List.length_map,List.length_replicate]
  rw [r.len,hn]
 ·obtain ⟨_,e⟩:=look h
  obtain ⟨v,h1,h2⟩:=Classical.choose_spec (key j) d e
  refine ⟨v, ?_,h2⟩
  unfold L2.dJ
  have hj:j < vs.length:=(List.getElem?_eq_some_iff.mp h1).1
  rw [List.getElem?_append_left (by simpa using hj),List.getElem?_map,h1]
  rfl
 ·cases (look h).1
 ·cases (look h).1
 ·obtain ⟨_,e⟩:=look h
  obtain ⟨v,h1,h2⟩:=Classical.choose_spec (key j) d e
  exact h2.dom a ha
set_option tactic.hygienic true in
theorem cZ {x qual:Str} {st:Stmt} {f:Addr} {fd:FuncData} {N ps:List Str} {kk:Nat} {M:Tab} {fn:Fn} (Fu:Fun K x qual st f fd) (Sc:aJ N ps (ab st)) (hps:ps.length=fn.par) (hN:N.length=fn.slots)
  (hb:∀ (cdv:Value) (A:Around) (outer:List PySem.Env) (s:Shared) (H:Hp) (E:XK),Room kk (A.deeper (envOfC qual (ab st) s.heap.objs.size f cdv)) →
   ∀ ρ,PSs (cxOf CX0 P w K mg base N qual (ab st) f cdv A outer s H E).nox (af st) (tSd cl ρ (asgs fn.body) (aA M fn.body ρ))) :
  FnOk P w K mg base CX0 (kk+1) f fd ps (spP cl (fn.run M)):=by
 refine Fu.ok Sc (fun vs H Q E h=>?_) fun cdv A outer s H vs Q E hr h=>?_
 ·refine zz fun P_ k_=>?_
  obtain ⟨ds,fp,r,rl,e,_⟩:=h
  refine k_ ?_
  unfold Fn.run at e
  split at e
  ·rename_i hc
   rw [rl.len,hc.1,hps]
  ·injection e
 ·refine zz fun P_ k_=>?_
  obtain ⟨ds,fp,r,rl,e,cont⟩:=h
  refine k_ ?_
  unfold Fn.run at e
  split at e
  ·rename_i hc
   obtain ⟨F,S⟩:=start_sok rl hN (by rw [hc.1]; exact hc.2)
   rw [hc.1] at S
   refine ⟨_,hb cdv A outer s H E hr (ds.map (fun d=>some (d,false))++List.replicate (fn.slots - fn.par) none),H,F,S, ?_⟩
   split at e
   ·rename_i d hd
    injection e with e; subst e
    rw [hd]
    exact fun v H' fp' s' r' n' m'=>cont v H' fp' s' r' n' m'
   ·rename_i ρ' hd
    injection e with e; subst e
    rw [hd]
    exact fun σ' H' F' S' _=>cont .non H' [] S'.same ⟨rfl,rfl⟩ List.nodup_nil fun _ h=>nomatch h
   ·injection e
   ·injection e
  ·injection e
end
end Vi
namespace Vi
open PySem PySem.Spec PyProof.Rows L2 PySem.SeqAt
section
variable {cl:Nat→Addr} {H:Hp}
set_option tactic.hygienic true in
theorem same_ls {f:D→D→Option Bool} (hf:∀ {a b:D} {k:Bool} {v:V} {fa fb:List Addr},f a b=some k→Rep cl H a v fa→Rep cl H b v fb→k=true) :
  ∀ {a b:List D} {k:Bool} {vs:List V} {fa fb:List Addr},eqLs f a b=some k→RepL cl H a vs fa→RepL cl H b vs fb→k=true:=by
 intro x_0
 induction x_0 with
 | nil =>
  intro x_1
  cases x_1 with
  | nil =>
   intro k _ _ _ h _ _
   (injection h with h; subst h); rfl
  | cons y b =>
   intro k vs fa fb _ h1 h2
   have e1:=h1.len
   have e2:=h2.len
   rw [e1] at e2
   simp at e2
 | cons x a ih_ =>
  intro x_1
  cases x_1 with
  | nil =>
   intro k vs fa fb _ h1 h2
   have e1:=h1.len
   have e2:=h2.len
   rw [e1] at e2
   simp at e2
  | cons y b =>
   intro k vs fa fb h h1 h2
   obtain ⟨v,vr,f1,g1,e1,_,r1,l1⟩:=h1
   obtain ⟨v',vr',f2,g2,e2,_,r2,l2⟩:=h2
   rw [e1] at e2
   injection e2 with e2 e3
   subst e2; subst e3
   simp only [eqLs] at h
   split at h
   ·rename_i p q hp hq
    (injection h with h; subst h)
    rw [hf hp r1 r2,ih_ hq l1 l2]
    rfl
   ·injection h
theorem same_eq:∀ {n:Nat} {a b:D} {k:Bool} {v:V} {fa fb:List Addr},eqN n a b=some k→Rep cl H a v fa→Rep cl H b v fb→k=true:=by
 intro n
 induction n with
 | zero=>intro _ _ _ _ _ _ h; injection h
 | succ n ih =>
  intro a b k v fa fb h h1 h2
  cases a with
  | non =>
   cases b with
   | non=>(injection h with h; subst h); rfl
   | bl _ =>
    have:=h1.1.symm.trans h2.1
    injection this
   | int _ =>
    have:=h1.1.symm.trans h2.1
    injection this
   | str _ =>
    have:=h1.1.symm.trans h2.1
    injection this
   | tup m =>
    obtain ⟨p,vs,e1,_⟩:=h2
    have:=h1.1.symm.trans e1
    injection this
   | _=>injection h
  | bl i =>
   cases b with
   | non =>
    have:=h1.1.symm.trans h2.1
    injection this
   | bl j =>
    (injection h with h; subst h)
    have:=h1.1.symm.trans h2.1
    injection this with this
    subst this
    simp
   | _=>injection h
  | int i =>
   cases b with
   | non =>
    have:=h1.1.symm.trans h2.1
    injection this
   | str _ =>
    have:=h1.1.symm.trans h2.1
    injection this
   | int j =>
    (injection h with h; subst h)
    have:=h1.1.symm.trans h2.1
    injection this with this
    subst this
    simp
   | _=>injection h
  | str i =>
   cases b with
   | non =>
    have:=h1.1.symm.trans h2.1
    injection this
   | int _ =>
    have:=h1.1.symm.trans h2.1
    injection this
   | str j =>
    (injection h with h; subst h)
    have:=h1.1.symm.trans h2.1
    injection this with this
    subst this
    simp
   | _=>injection h
  | tup l =>
   cases b with
   | non =>
    obtain ⟨p,vs,e1,_⟩:=h1
    have:=e1.symm.trans h2.1
    injection this
   | tup m =>
    have h:eqLs (eqN n) l m=some k:=h
    obtain ⟨p,vs,e1,hp,r1⟩:=h1
    obtain ⟨q,ws,e2,hq,r2⟩:=h2
    rw [e1] at e2
    injection e2 with e2
    subst e2
    rw [hp] at hq
    (injection hq with hq; injection hq with hq; subst hq)
    exact same_ls (fun h=>ih h) h r1 r2
   | _=>injection h
  | lst l =>
   cases b with
   | lst m =>
    have h:eqLs (eqN n) l m=some k:=h
    obtain ⟨p,vs,f1,e1,_,r1,hp⟩:=h1
    obtain ⟨q,ws,f2,e2,_,r2,hq⟩:=h2
    rw [e1] at e2
    injection e2 with e2
    subst e2
    have ev:vs=ws:=by
     rcases hp with hp | ⟨o,hp⟩ <;> rcases hq with hq | ⟨o',hq⟩ <;> rw [hp] at hq <;> cases hq <;> rfl
    subst ev
    exact same_ls (fun h=>ih h) h r1 r2
   | _=>injection h
  | _=>injection h
end
section
variable {X:Cx} {cl:Nat→Addr} {H:Hp} {pins:List (Addr × Obj)} {σ:L2.St} {s:Shared}
set_option tactic.hygienic true in
theorem ls_range {f:D→D→Option Bool}:∀ {a b:List D} {k:Bool},eqLs f a b=some k →
  ∃ e:Nat→Bool,(∀ j (x y:D),a[j]?=some x→b[j]?=some y→f x y=some (e j))∧k=((List.range (min a.length b.length)).all e && a.length == b.length):=by
 intro x_0
 induction x_0 with
 | nil =>
  intro x_1
  cases x_1 with
  | nil =>
   intro k h
   (injection h with h; subst h); exact ⟨fun _=>true,fun j x y h=>by simp at h,by simp⟩
  | cons y b =>
   intro k h
   (injection h with h; subst h); exact ⟨fun _=>true,fun j x y h=>by simp at h,by simp⟩
 | cons x a ih_ =>
  intro x_1
  cases x_1 with
  | nil =>
   intro k h
   (injection h with h; subst h); exact ⟨fun _=>true,fun j x y _ h=>by simp at h,by simp⟩
  | cons y b =>
   intro k h
   simp only [eqLs] at h
   split at h
   ·rename_i p q hp hq
    (injection h with h; subst h)
    obtain ⟨e,h1,h2⟩:=ih_ hq
    refine ⟨fun j=>match j with | 0=>p | j+1=>e j,fun j u v hu hv=>?_, ?_⟩
    ·cases j with
     | zero=>(injection hu with hu; subst hu); (injection hv with hv; subst hv); exact hp
     | succ j=>exact h1 j u v (by simpa using hu) (by simpa using hv)
    ·rw [h2]
     have em:min (x::a).length (y::b).length=min a.length b.length+1:=by simp [Nat.succ_min_succ]
     rw [em,List.range_succ_eq_map,List.all_cons,List.all_map]
     have el:((x::a).length == (y::b).length)=(a.length == b.length):=by simp
     rw [el,Bool.and_assoc]
     rfl
   ·injection h
theorem jz {K:PySem.W.Frag} {l:List D} {vs:List V} {its:List Value} {f:List Addr} (r:RepL cl H l vs f) (rv:Vals vs its) {j:Nat} (h:j < its.toArray.size):∃ d v g,l[j]?=some d∧Rep cl H d v g∧RelV v its.toArray[j]:=by
 have hj:j < l.length:=by rw [← r.len,rv.length]; simpa using h
 obtain ⟨v,g,e1,e2,_⟩:=r.get (List.getElem?_eq_getElem hj)
 obtain ⟨u,hu,ru⟩:=rv.get e1
 refine ⟨l[j],v,g,List.getElem?_eq_getElem hj,e2, ?_⟩
 have hj':j < its.length:=by simpa using h
 rw [List.getElem?_eq_getElem hj'] at hu
 (injection hu with hu; subst hu)
 simpa using ru
theorem lst_val (I:Inv X pins σ H s) {l:List D} {x:V} {u:Value} {f:List Addr} (r:Rep cl H (.lst l) x f) (ru:RelV x u):∃ a vs its g,u=.ref a∧x=.ref a∧s.heap.IsList a its.toArray∧Vals vs its∧RepL cl H l vs g:=by
 obtain ⟨p,vs,g,e,h1,h2⟩:=bX (K:=X.K) r
 subst e
 subst ru
 obtain ⟨its,rv,pl,_⟩:=I.list h1
 exact ⟨p,vs,its,g,rfl,rfl,pl.isList,rv,h2⟩
theorem gU (I:Inv X pins σ H s) {l:List D} {x:V} {u:Value} {f:List Addr} (r:Rep cl H (.tup l) x f) (ru:RelV x u):∃ a vs its,u=.ref a∧x=.ref a∧s.heap.IsTuple a its.toArray∧Vals vs its∧RepL cl H l vs f:=by
 obtain ⟨p,vs,e,h1,h2⟩:=gF (K:=X.K) r
 subst e
 subst ru
 obtain ⟨its,rv,pl,_⟩:=I.tuple h1
 exact ⟨p,vs,its,rfl,rfl,pl,rv,h2⟩
theorem eq_ok (I:Inv X pins σ H s):∀ {n:Nat} {a b:D} {k:Bool} {x y:V} {u v:Value} {fa fb:List Addr} {A:Around},eqN n a b=some k→Rep cl H a x fa→Rep cl H b y fb→RelV x u→RelV y v→A.units+n < cLine →
  RcAt A s u v k∧EqAt A s u v k∧RcNeAt A s u v (!k):=by
 intro x_0
 induction x_0 with
 | zero =>
  intro _ _ _ _ _ _ _ _ _ _ h _ _ _ _ _
  injection h
 | succ n ih_ =>
  intro a b k x y u v fa fb A h h1 h2 ru rv hA
  have hu:A.units < cLine:=by exact Nat.lt_of_le_of_lt (Nat.le_add_right _ _) ‹_›
  have hin:A.in1.units+n < cLine:=by show A.units+1+n < cLine; (clear I h h1 h2 ru rv hu; omega)
  have h0:=h
  cases a with
  | non =>
   rw [h1.1] at ru
   subst ru
   cases b with
   | non =>
    (injection h with h; subst h)
    rw [h2.1] at rv
    subst rv
    exact ⟨.none_none,.same _,.none_none⟩
   | int i =>
    (injection h with h; subst h)
    rw [h2.1] at rv
    obtain ⟨t',rfl⟩:=rv
    exact ⟨.none_int _ _,.none_int _ _,.none_int _ _⟩
   | str i =>
    (injection h with h; subst h)
    rw [h2.1] at rv
    obtain ⟨t',rfl⟩:=rv
    exact ⟨.none_str _ _,.none_str _ _,.none_str _ _⟩
   | bl i =>
    (injection h with h; subst h)
    rw [h2.1] at rv
    subst rv
    exact ⟨.none_bool _,.none_bool _,.none_bool _⟩
   | tup m =>
    (injection h with h; subst h)
    refine zz fun P_ k_=>?_
    obtain ⟨q,ws,its2,ev,ey,il2,vv2,r2⟩:=gU I h2 rv
    refine k_ ?_
    subst ev
    exact ⟨.none_tuple il2 hu,.none_tuple il2 hu,.none_tuple il2 hu⟩
   | _=>injection h
  | bl i =>
   rw [h1.1] at ru
   subst ru
   cases b with
   | non =>
    (injection h with h; subst h)
    rw [h2.1] at rv
    subst rv
    exact ⟨.bool_none _,.bool_none _,.bool_none _⟩
   | bl j =>
    (injection h with h; subst h)
    rw [h2.1] at rv
    subst rv
    exact ⟨.bool_bool _ _,.bool_bool _ _,.bool_bool _ _⟩
   | _=>injection h
  | int i =>
   rw [h1.1] at ru
   obtain ⟨t,rfl⟩:=ru
   cases b with
   | non =>
    (injection h with h; subst h)
    rw [h2.1] at rv
    subst rv
    exact ⟨.int_none _ _,.int_none _ _,.int_none _ _⟩
   | int j =>
    (injection h with h; subst h)
    rw [h2.1] at rv
    obtain ⟨t',rfl⟩:=rv
    exact ⟨.int_int _ _ _ _,.int_int _ _ _ _,.int_int _ _ _ _⟩
   | str j =>
    (injection h with h; subst h)
    rw [h2.1] at rv
    obtain ⟨t',rfl⟩:=rv
    exact ⟨.int_str _ _ _ _,.int_str _ _ _ _,.int_str _ _ _ _⟩
   | _=>injection h
  | str i =>
   rw [h1.1] at ru
   obtain ⟨t,rfl⟩:=ru
   cases b with
   | non =>
    (injection h with h; subst h)
    rw [h2.1] at rv
    subst rv
    exact ⟨.str_none _ _,.str_none _ _,.str_none _ _⟩
   | int j =>
    (injection h with h; subst h)
    rw [h2.1] at rv
    obtain ⟨t',rfl⟩:=rv
    exact ⟨.str_int _ _ _ _,.str_int _ _ _ _,.str_int _ _ _ _⟩
   | str j =>
    (injection h with h; subst h)
    rw [h2.1] at rv
    obtain ⟨t',rfl⟩:=rv
    exact ⟨.str_str _ _ _ _,.str_str _ _ _ _,.str_str _ _ _ _⟩
   | _=>injection h
  | tup l =>
   cases b with
   | non =>
    (injection h with h; subst h)
    rw [h2.1] at rv
    subst rv
    refine zz fun P_ k_=>?_
    obtain ⟨q,ws,its2,ev,ey,il2,vv2,r2⟩:=gU I h1 ru
    refine k_ ?_
    subst ev
    exact ⟨.tuple_none il2 hu,.tuple_none il2 hu,.tuple_none il2 hu⟩
   | tup m =>
    have h:eqLs (eqN n) l m=some k:=h
    refine zz fun P_ k_=>?_
    obtain ⟨p,vs,its,eu,ex,il,vv,r1⟩:=gU I h1 ru
    obtain ⟨q,ws,its2,ev,ey,il2,vv2,r2⟩:=gU I h2 rv
    obtain ⟨e,he,ek⟩:=ls_range h
    refine k_ ?_
    have items:∀ j (z1:j < its.toArray.size) (z2:j < its2.toArray.size),EqAt A.in1 s its.toArray[j] its2.toArray[j] (e j):=fun j z1 z2=>by
     refine zz fun P_ k_=>?_
     obtain ⟨d1,w1,g1,a1,a2,a3⟩:=jz (K:=X.K) r1 vv z1
     obtain ⟨d2,w2,g2,b1,b2,b3⟩:=jz (K:=X.K) r2 vv2 z2
     refine k_ ?_
     exact (ih_ (he j d1 d2 a1 b1) a2 b2 a3 b3 hin).2.1
    have sz:its.toArray.size=l.length:=by rw [← r1.len,vv.length]; simp
    have sz2:its2.toArray.size=m.length:=by rw [← r2.len,vv2.length]; simp
    have rc:=RcAt.tuples il il2 hu items
    have rn:=RcNeAt.tuples il il2 hu items
    rw [sz,sz2,← ek] at rc rn
    subst eu; subst ev
    refine ⟨rc, ?_,rn⟩
    by_cases hpq:p=q
    ·subst hpq
     have:=same_eq h0 h1 (ex.trans ey.symm ▸ h2)
     subst this
     exact .same _
    ·exact .of_refs hpq rc
   | _=>injection h
  | lst l =>
   cases b with
   | lst m =>
    have h:eqLs (eqN n) l m=some k:=h
    refine zz fun P_ k_=>?_
    obtain ⟨p,vs,its,g1,eu,ex,il,vv,r1⟩:=lst_val I h1 ru
    obtain ⟨q,ws,its2,g2,ev,ey,il2,vv2,r2⟩:=lst_val I h2 rv
    obtain ⟨e,he,ek⟩:=ls_range h
    refine k_ ?_
    have sz:its.toArray.size=l.length:=by rw [← r1.len,vv.length]; simp
    have sz2:its2.toArray.size=m.length:=by rw [← r2.len,vv2.length]; simp
    subst eu; subst ev
    have both:RcAt A s (.ref p) (.ref q) k∧RcNeAt A s (.ref p) (.ref q) (!k):=by
     by_cases hl:l.length=m.length
     ·have items:∀ j (z1:j < its.toArray.size) (z2:j < its2.toArray.size),EqAt A.in1 s its.toArray[j] its2.toArray[j] (e j):=fun j z1 z2=>by
       refine zz fun P_ k_=>?_
       obtain ⟨d1,w1,g1,a1,a2,a3⟩:=jz (K:=X.K) r1 vv z1
       obtain ⟨d2,w2,g2,b1,b2,b3⟩:=jz (K:=X.K) r2 vv2 z2
       refine k_ ?_
       exact (ih_ (he j d1 d2 a1 b1) a2 b2 a3 b3 hin).2.1
      have hsz:its.toArray.size=its2.toArray.size:=by rw [sz,sz2,hl]
      have rc:=RcAt.lists il il2 hsz hu items
      have rn:=RcNeAt.lists il il2 hsz hu items
      have ek':k=(List.range its.toArray.size).all e:=by rw [ek,hl,Nat.min_self,sz,hl]; simp
      rw [← ek'] at rc rn
      exact ⟨rc,rn⟩
     ·have hsz:(its.toArray.size != its2.toArray.size)=true:=by rw [sz,sz2]; simpa using hl
      have ek':k=false:=by
       rw [ek]
       have:(l.length == m.length)=false:=by simpa using hl
       rw [this,Bool.and_false]
      subst ek'
      exact ⟨RcAt.lists_lengths il il2 hsz hu,RcNeAt.lists_lengths il il2 hsz hu⟩
    refine ⟨both.1, ?_,both.2⟩
    by_cases hpq:p=q
    ·subst hpq
     have:=same_eq h0 h1 (ex.trans ey.symm ▸ h2)
     subst this
     exact .same _
    ·exact .of_refs hpq both.1
   | _=>injection h
  | dK l=>injection h
  | dT l=>injection h
  | obj c fs=>injection h
noncomputable def rEqD (cl:Nat→Addr) (neg:Bool):R2:=fun x y H Q=>∃ a b k fa fb,Rep cl H a x fa∧Rep cl H b y fb∧eqD a b=some k∧Q (.bl (if neg then !k else k)) H
theorem op_eqD (hu:X.A.units+8 < cLine):OpR X (compareOp .Eq) (rEqD cl false):=by
 intro pins s σ H x y v u Q I rx ry hh_
 obtain ⟨a,b,k,fa,fb,h1,h2,e,q⟩:=hh_
 exact (eq_ok I e h1 h2 rx ry hu).1 X.prog X.w X.xe _ ⟨.bl k,H,I,rfl,q⟩
theorem op_neD (hu:X.A.units+8 < cLine):OpR X (compareOp .NotEq) (rEqD cl true):=by
 intro pins s σ H x y v u Q I rx ry hh_
 obtain ⟨a,b,k,fa,fb,h1,h2,e,q⟩:=hh_
 exact (eq_ok I e h1 h2 rx ry hu).2.2 X.prog X.w X.xe _ ⟨.bl (!k),H,I,rfl,q⟩
end
end Vi
namespace Vi
open PySem PySem.Spec PyProof.Rows L2
section
variable (X:Cx) (cl:Nat→Addr) (M:Tab)
noncomputable def GE (e:Expr) (E':E):Prop:=∀ ρ d k,runE M E' ρ=.ok (d,k)→PE X e (tD cl ρ d k)
noncomputable def GA (es:List Expr) (Es:List E):Prop:=∀ ρ ds k,bY M Es ρ=.ok (ds,k)→PA X es (tDs cl ρ ds k)
noncomputable def GT (e:Expr) (E':E):Prop:=∀ ρ d k t,runE M E' ρ=.ok (d,k)→truD d=.ok t→PT X e (tTd cl ρ t)
noncomputable def GI (tg iter:Expr) (ik:Itk) (it:List E):Prop:=∀ ρ xs k,runI M ik it ρ=.ok (xs,k)→PI X tg iter (tI cl ρ xs k)
noncomputable def GS (st:Stmt) (s:S):Prop:=∀ ρ,PS X st (tSd cl ρ (asg s) (runS M s ρ))
noncomputable def GSs (sts:List Stmt) (ss:List S):Prop:=∀ ρ,PSs X sts (tSd cl ρ (asgs ss) (aA M ss ρ))
end
section
variable {X:Cx} {cl:Nat→Addr} {M:Tab} {a b c e o:Expr} {es rest:List Expr} {pos p p2:Pos} {a' b' c' e' o':E} {es':List E}
theorem ad {i : Nat} {x : Str} (hN : X.N[i]? = some x) (hv : Vis X.env.scope x) (hd : (x == ("__debug__" : Str)) = false) (hcd : (x == ("__classdict__" : Str)) = false) : GE X cl M (.Name x pos) (.var i) := fun ρ d k h => e_var hN hv hd hcd h
theorem ap {i:Int} {j}:GE X cl M (.Constant (.int i) j pos) (.int i):=fun ρ d k h=>by
 cases h; exact e_int
theorem g_bl {i:Bool} {j}:GE X cl M (.Constant (.bool i) j pos) (.bl i):=fun ρ d k h=>by
 cases h; exact e_bl
theorem g_non {j}:GE X cl M (.Constant .none j pos) .non:=fun ρ d k h=>by
 cases h; exact e_non
theorem g_glb {x : Str} {i : Int} {t : Tok} (hg : Gl X x) (hm : X.mg x = some (.int i t)) (hd : (x == ("__debug__" : Str)) = false) : GE X cl M (.Name x pos) (.glb (.int i)) := fun ρ d k h => by
 cases h
 exact bj (pe_glob (v:=.int i) hg hm ⟨t,rfl⟩ hd) fun σ H Q hh_=>(by obtain ⟨_,_,_,q⟩:=hh_; exact (q _ H [] (Same.refl H) ⟨rfl,rfl⟩ KOk.nil0))
theorem aU {op:Op} (ha:GE X cl M a a') (hb:GE X cl M b b'):GE X cl M (.BinOp a (opOf op) b pos) (.bin op a' b'):=fun ρ d k h=>by
 rw [rE_bin] at h
 obtain ⟨⟨x,kx⟩,h1,h⟩:=R.bind_ok h
 obtain ⟨⟨y,ky⟩,h2,h⟩:=R.bind_ok h
 obtain ⟨z,h3,h⟩:=R.bind_ok h
 simp only [R.pure_eq,R.ok.injEq,Prod.mk.injEq] at h; obtain ⟨rfl,rfl⟩:=h
 exact e_bin h3 (ha ρ x kx h1) (hb ρ y ky h2)
theorem g_neg (ha:GE X cl M a a'):GE X cl M (.UnaryOp .USub a pos) (.neg a'):=fun ρ d k h=>by
 rw [rE_neg] at h
 obtain ⟨⟨x,kx⟩,h1,h⟩:=R.bind_ok h
 cases x with
 | int i =>
  simp only [R.pure_eq,R.ok.injEq,Prod.mk.injEq] at h; obtain ⟨rfl,rfl⟩:=h
  exact bj (pe_un un_neg (ha ρ _ kx h1)) fun σ H Q ⟨H0,F,S,q⟩=>⟨H0,F,S,fun v H1 fp s1 r1 _=>⟨i,r1.1,q _ H1 [] s1 ⟨rfl,rfl⟩ KOk.nil0⟩⟩
 | _=>injection h
theorem g_not (ha:GE X cl M a a'):GE X cl M (.UnaryOp .Not a pos) (.not a'):=fun ρ d k h=>by
 rw [rE_not] at h
 refine zz fun P_ k_=>?_
 obtain ⟨⟨x,kx⟩,h1,h⟩:=R.bind_ok h
 refine k_ ?_
 cases x with
 | bl i =>
  simp only [R.pure_eq,R.ok.injEq,Prod.mk.injEq] at h; obtain ⟨rfl,rfl⟩:=h
  exact bj (pe_not (ha ρ _ kx h1)) fun σ H Q ⟨H0,F,S,q⟩=>⟨H0,F,S,fun v H1 fp s1 r1 _=>⟨i,r1.1,q _ H1 [] s1 ⟨rfl,rfl⟩ KOk.nil0⟩⟩
 | _=>injection h
theorem g_one {op} (ha:GE X cl M a a'):GE X cl M (.BoolOp op [a] pos) a':=fun ρ d k h=>pe_one (ha ρ d k h)
theorem g_and (ha:GE X cl M a a') (hb:GE X cl M (.BoolOp .And (b::rest) pos) b'):GE X cl M (.BoolOp .And (a::b::rest) pos) (.and a' b'):=fun ρ d k h=>by
 rw [rE_and] at h
 obtain ⟨⟨x,kx⟩,h1,h⟩:=R.bind_ok h
 cases x with
 | bl i =>
  cases i with
  | true =>
   intro pins s σ H Q I hh_
   obtain ⟨H0,F,S,q⟩:=hh_
   exact pe_and (ha ρ _ kx h1) (hb ρ d k h) pins s σ H Q I ⟨H0,F,S,fun v H1 fp s1 r1 _=>⟨true,r1.1,iteT ⟨H0,F,S.step s1,fun v2 H2 fp2 s2 r2 k2=>q v2 H2 fp2 (s1.trans s2) r2 (KOk.of_sub s1 k2)⟩⟩⟩
  | false =>
   simp only [R.pure_eq,R.ok.injEq,Prod.mk.injEq] at h; obtain ⟨rfl,rfl⟩:=h
   intro pins s σ H Q I hh_
   obtain ⟨H0,F,S,q⟩:=hh_
   refine BoolOp_and (thn (ha ρ _ kx h1 pins s σ H (fun v H1=>v=.bl false∧Q (.bl false) H1) I ⟨H0,F,S,fun v H1 fp s1 r1 _=>⟨r1.1,q _ H1 [] s1 ⟨rfl,rfl⟩ KOk.nil0⟩⟩) fun v s1 hh_=>?_)
   obtain ⟨x,H1,I1,r1,e,q1⟩:=hh_
   subst e
   subst r1
   exact wpAny_truthy_bool ⟨.bl false,H1,I1,rfl,q1⟩
 | _=>injection h
noncomputable def GW (X:Cx) (cl:Nat→Addr) (M:Tab) (e:Expr) (E':E):Prop:=∀ ρ d k t,runE M E' ρ=.ok (d,k)→truD d=.ok t→PW X e (tTd cl ρ t)
theorem bK (h:GE X cl M a a') (he:∀ whole,isTrue a X.env whole=(do let v ← whole; standAt a.pos; holding [v] (truthy v))):GT X cl M a a':=fun ρ d k t h1 h2=>t_truth (h ρ d k h1) h2 he
theorem fi (h:GT X cl M a a'):GT X cl M (.UnaryOp .Not a pos) (.not a'):=fun ρ d k t h1 h2=>by
 rw [rE_not] at h1
 obtain ⟨⟨x,kx⟩,h3,h1⟩:=R.bind_ok h1
 cases x with
 | bl i =>
  simp only [R.pure_eq,R.ok.injEq,Prod.mk.injEq] at h1; obtain ⟨rfl,rfl⟩:=h1
  (injection h2 with h2; subst h2)
  exact t_not (h ρ _ kx i h3 rfl)
 | _=>injection h1
theorem fQ (h:GW X cl M a a'):GT X cl M a a':=fun ρ d k t h1 h2=>(h ρ d k t h1 h2).pt
theorem fD (h:GT X cl M a a'):GW X cl M (.BoolOp .And [a] pos) a':=fun ρ d k t h1 h2=>w_one_and (h ρ d k t h1 h2)
theorem iz (h:GT X cl M a a'):GW X cl M (.BoolOp .Or [a] pos) a':=fun ρ d k t h1 h2=>w_one_or (h ρ d k t h1 h2)
theorem gp (h:GT X cl M a a') (hb:GW X cl M (.BoolOp .And (b::rest) pos) b'):GW X cl M (.BoolOp .And (a::b::rest) pos) (.and a' b'):=fun ρ d k t h1 h2=>by
 rw [rE_and] at h1
 obtain ⟨⟨x,kx⟩,h3,h1⟩:=R.bind_ok h1
 cases x with
 | bl i =>
  cases i with
  | true=>exact w_and (t:=true) (u:=t) (h ρ _ kx true h3 rfl) fun _=>hb ρ d k t h1 h2
  | false =>
   simp only [R.pure_eq,R.ok.injEq,Prod.mk.injEq] at h1; obtain ⟨rfl,rfl⟩:=h1
   (injection h2 with h2; subst h2)
   exact w_and (t:=false) (u:=true) (h ρ _ kx false h3 rfl) fun z=>(nomatch z)
 | _=>injection h1
theorem gw_or (h:GT X cl M a a') (hb:GW X cl M (.BoolOp .Or (b::rest) pos) b'):GW X cl M (.BoolOp .Or (a::b::rest) pos) (.or a' b'):=fun ρ d k t h1 h2=>by
 rw [rE_or] at h1
 obtain ⟨⟨x,kx⟩,h3,h1⟩:=R.bind_ok h1
 cases x with
 | bl i =>
  cases i with
  | false=>exact w_or (t:=false) (u:=t) (h ρ _ kx false h3 rfl) fun _=>hb ρ d k t h1 h2
  | true =>
   simp only [R.pure_eq,R.ok.injEq,Prod.mk.injEq] at h1; obtain ⟨rfl,rfl⟩:=h1
   (injection h2 with h2; subst h2)
   exact w_or (t:=true) (u:=true) (h ρ _ kx true h3 rfl) fun z=>(nomatch z)
 | _=>injection h1
noncomputable def cpOf:Cp→CmpOp
 | .eq=>.Eq | .ne=>.NotEq | .lt=>.Lt | .le=>.LtE | .gt=>.Gt | .ge=>.GtE | .isN=>.Is | .notN=>.IsNot | .mem=>.In | .nmem=>.NotIn
noncomputable def cX (X:Cx) (cl:Nat→Addr) (op:CmpOp) (d1 d2:D) (t:Bool):Prop:=∀ (pins:List (Addr × Obj)) (s:Shared) (σ:L2.St) (H:Hp) (x y:V) (v u:Value) (Q:VK) (f g:List Addr),Inv X pins σ H s→RelV x v→RelV y u→Rep cl H d1 x f→Rep cl H d2 y g→Q (.bl t) H →
 wpAny (model X.prog X.w) X.A (compareOp op v u) (EP X pins σ Q) X.xe s
theorem cX.of {op:CmpOp} {r:R2} {d1 d2:D} {t:Bool} (ho:OpR X (compareOp op) r) (hr:∀ x y H (Q:VK) f g,Rep cl H d1 x f→Rep cl H d2 y g→Q (.bl t) H→r x y H Q):cX X cl op d1 d2 t :=
 fun pins s σ H x y v u Q f g I rx ry r1 r2 q=>ho pins s σ H x y v u Q I rx ry (hr x y H Q f g r1 r2 q)
noncomputable def rCmp (cl:Nat→Addr) (d1 d2:D) (t:Bool):R2:=fun x y H Q=>∃ f g,Rep cl H d1 x f∧Rep cl H d2 y g∧Q (.bl t) H
theorem cX.opR {op:CmpOp} {d1 d2:D} {t:Bool} (h:cX X cl op d1 d2 t):OpR X (compareOp op) (rCmp cl d1 d2 t):=fun pins s σ H x y v u Q I rx ry hh_=>(by obtain ⟨f,g,r1,r2,q⟩:=hh_; exact (h pins s σ H x y v u Q f g I rx ry r1 r2 q))
theorem flat_atom {d:D} {x:V} {H:Hp} {f:List Addr} {y:D} {k:Bool} (h:atomEq d y=some k) (r:Rep cl H d x f):fE x=true∧f=[]:=by
 cases d with
 | int i=>rw [r.1]; exact ⟨rfl,r.2⟩
 | str i=>rw [r.1]; exact ⟨rfl,r.2⟩
 | _=>cases y <;> injection h
theorem flat_atom2 {d:D} {x:V} {H:Hp} {f:List Addr} {y:D} {k:Bool} (h:atomEq y d=some k) (r:Rep cl H d x f):fE x=true:=by
 cases d with
 | int i=>rw [r.1]; rfl
 | str i=>rw [r.1]; rfl
 | _=>cases y <;> injection h
theorem eqV_atom {d y:D} {u v:V} {H:Hp} {f g:List Addr} {k:Bool} (h:atomEq d y=some k) (r:Rep cl H d u f) (r':Rep cl H y v g):eqV u v=k:=by
 cases d with
 | int i =>
  cases y with
  | int j=>rw [r.1,r'.1]; cases h; rfl
  | _=>cases h
 | str i =>
  cases y with
  | str j =>
   rw [r.1,r'.1]
   cases h
   show (decide (i=j))=_
   by_cases e:i=j
   ·simp [e]
   ·simp [e]
  | _=>injection h
 | _=>cases y <;> injection h
set_option tactic.hygienic true in
theorem mem_rep {d:D} {x:V} {H:Hp} {f:List Addr} (rx:Rep cl H d x f):∀ {l:List D} {vs:List V} {g:List Addr} {k:Bool},memL d l=some k→RepL cl H l vs g→vs.all fE=true∧inV x vs=k∧(l≠[]→fE x=true):=by
 intro x_0
 induction x_0 with
 | nil =>
  intro vs g k h r
  obtain ⟨e,_⟩:=r
  subst e
  (injection h with h; subst h)
  exact ⟨rfl,rfl,fun z=>absurd rfl z⟩
 | cons y l ih_ =>
  intro vs g k h r
  obtain ⟨v,vr,f1,g1,e,_,r1,r2⟩:=r
  subst e
  simp only [memL] at h
  split at h
  ·rename_i p q hp hq
   (injection h with h; subst h)
   obtain ⟨h1,h2,_⟩:=ih_ hq r2
   refine ⟨by rw [List.all_cons,(flat_atom hp r1).1,h1]; rfl, ?_,fun _=>flat_atom2 hp rx⟩
   show (List.any (v::vr) fun y=>eqV y x)=_
   rw [List.any_cons,eqV_atom hp r1 rx]
   show (p || inV x vr)=_
   rw [h2]
  ·injection h
end
end Vi
namespace Vi
open PySem PySem.Spec PyProof.Rows L2
section
variable {X:Cx} {cl:Nat→Addr} {H:Hp}
theorem val_rep {κ:Type} [DecidableEq κ] {k:κ}:∀ {l:List (κ × D)} {kvs:List (κ × V)} {f:List Addr},l.map (·.1)=kvs.map (·.1)→RepL cl H (l.map (·.2)) (kvs.map (·.2)) f →
  (valD l k=none∧valV kvs k=none)∨∃ dv w fw,valD l k=some dv∧valV kvs k=some w∧Rep cl H dv w fw∧∀ b∈fw,b∈f:=by
 intro x_0
 induction x_0 with
 | nil =>
  intro x_1
  cases x_1 with
  | nil =>
   intro _ _ _
   exact .inl ⟨rfl,rfl⟩
  | cons _ _ =>
   intro _ e _
   simp at e
 | cons p_0 l ih_ =>
  obtain ⟨k1,d⟩:=p_0
  intro x_1
  cases x_1 with
  | nil =>
   intro _ e _
   simp at e
  | cons p_1 kvs =>
   obtain ⟨k2,v⟩:=p_1
   intro f e r
   rw [List.map_cons,List.map_cons] at e r
   injection e with e1 e2
   obtain ⟨v',vr,f1,g1,ev,ef,r1,r2⟩:=r
   injection ev with ev1 ev2
   subst ev1; subst ev2; subst ef
   have e1:k1=k2:=e1
   subst e1
   by_cases h:k1=k
   ·refine .inr ⟨d,v,f1, ?_,gD h,r1,fun b hb=>List.mem_append_left _ hb⟩
    simp [valD,List.find?_cons,h]
   ·have h1:valD ((k1,d)::l) k=valD l k:=by simp [valD,List.find?_cons,h]
    rw [h1,gE (p:=(k1,v)) h]
    rcases ih_ e2 r2 with z | ⟨dv,w,fw,z1,z2,z3,z4⟩
    ·exact .inl z
    ·exact .inr ⟨dv,w,fw,z1,z2,z3,fun b hb=>List.mem_append_right _ (z4 b hb)⟩
theorem jY {d:D} {v:V} {g:List Addr} {k:Key} (h:dt d=some k) (r:Rep cl H d v g):v=kV k:=by
 cases d with
 | int i=>(injection h with h; subst h); exact r.1
 | str i=>(injection h with h; subst h); exact r.1
 | _=>injection h
set_option tactic.hygienic true in
theorem jX:∀ {l:List D} {vs:List V} {g:List Addr} {ks:List Key},cu l=some ks→RepL cl H l vs g→vs=ks.map kV:=by
 intro x_0
 induction x_0 with
 | nil =>
  intro _ _ _ h r
  (injection h with h; subst h); exact r.1
 | cons d l ih_ =>
  intro vs g ks h r
  obtain ⟨v,vr,f1,g1,ev,ef,r1,r2⟩:=r
  simp only [cu] at h
  split at h
  ·rename_i k ks' h1 h2
   (injection h with h; subst h)
   rw [ev,jY h1 r1,ih_ h2 r2]
   rfl
  ·injection h
set_option tactic.hygienic true in
theorem gQ {d y:D} {x v:V} {f g:List Addr} {o:Option D} (rd:Rep cl H d x f) (ry:Rep cl H y v g) (h:da d y=some o) :
  ∃ a o',x=.ref a∧IsD H a∧DGet H a v o'∧((o=none∧o'=none)∨∃ dv w fw,o=some dv∧o'=some w∧Rep cl H dv w fw∧∀ b∈fw,b∈f):=by
 cases d with
 | dK l =>
  simp only [da] at h
  split at h
  ·rename_i k hk
   (injection h with h; subst h)
   refine zz fun P_ k_=>?_
   obtain ⟨a,f',kvs,e,ef,ha,hks,r⟩:=rd
   refine k_ ?_
   refine ⟨a,valV kvs k,e,.inl ⟨kvs,ha⟩,by rw [jY hk ry]; exact .inl ⟨kvs,k,ha,rfl,rfl⟩, ?_⟩
   rcases val_rep (k:=k) hks (RepM.l.mp r) with z | ⟨dv,w,fw,z1,z2,z3,z4⟩
   ·exact .inl z
   ·exact .inr ⟨dv,w,fw,z1,z2,z3,fun b hb=>by rw [ef]; exact List.mem_cons_of_mem _ (z4 b hb)⟩
  ·injection h
 | dT l =>
  cases y with
  | tup ks =>
   simp only [da] at h
   split at h
   ·rename_i k hk
    (injection h with h; subst h)
    refine zz fun P_ k_=>?_
    obtain ⟨a,f',kvs,e,ef,ha,hks,r⟩:=rd
    obtain ⟨b,vs,eb,hb,rl⟩:=ry
    refine k_ ?_
    have ev:=jX hk rl
    subst ev
    refine ⟨a,valV kvs k,e,.inr ⟨kvs,.inl ha⟩,by rw [eb]; exact DGet.t ha hb, ?_⟩
    rcases val_rep (k:=k) hks (RepT.l.mp r) with z | ⟨dv,w,fw,z1,z2,z3,z4⟩
    ·exact .inl z
    ·exact .inr ⟨dv,w,fw,z1,z2,z3,fun b hb=>by rw [ef]; exact List.mem_cons_of_mem _ (z4 b hb)⟩
   ·injection h
  | _=>injection h
 | _=>injection h
theorem any_keys {κ:Type} [DecidableEq κ] {k:κ}:∀ {l:List (κ × D)} {kvs:List (κ × V)},l.map (·.1)=kvs.map (·.1)→(l.any fun kv=>decide (kv.1=k))=(kvs.any fun kv=>decide (kv.1=k)):=by
 intro x_0
 induction x_0 with
 | nil =>
  intro x_1
  cases x_1 with
  | nil =>
   intro _
   exact rfl
  | cons _ _ =>
   intro e
   simp at e
 | cons p_0 l ih_ =>
  obtain ⟨k1,d⟩:=p_0
  intro x_1
  cases x_1 with
  | nil =>
   intro e
   simp at e
  | cons p_1 kvs =>
   obtain ⟨k2,v⟩:=p_1
   intro e
   rw [List.map_cons,List.map_cons] at e
   injection e with e1 e2
   have e1:k1=k2:=e1
   rw [List.any_cons,List.any_cons,ih_ e2,e1]
theorem put_rep {κ:Type} [DecidableEq κ] {k:κ} {d:D} {w:V} {l:List (κ × D)} {kvs:List (κ × V)} {f:List Addr} (e:l.map (·.1)=kvs.map (·.1)) (r:RepL cl H (l.map (·.2)) (kvs.map (·.2)) f) (rw':Rep cl H d w []) :
  (putD l k d).map (·.1)=(putK kvs k w).map (·.1)∧∃ f',f'.Sublist f∧RepL cl H ((putD l k d).map (·.2)) ((putK kvs k w).map (·.2)) f':=by
 unfold putD putK
 rw [any_keys e]
 by_cases h:(kvs.any fun kv=>decide (kv.1=k))=true
 ·rw [if_pos h,if_pos h]
  clear h
  induction l generalizing kvs f with
  | nil =>
   cases kvs with
   | nil=>exact ⟨rfl,f,List.Sublist.refl _,r⟩
   | cons _ _=>simp at e
  | cons p l ih =>
   cases kvs with
   | nil=>simp at e
   | cons q kvs =>
    obtain ⟨k1,d1⟩:=p
    obtain ⟨k2,v1⟩:=q
    rw [List.map_cons,List.map_cons] at e r
    injection e with e1 e2
    have e1:k1=k2:=e1
    subst e1
    refine zz fun P_ k_=>?_
    obtain ⟨v',vr,f1,g1,ev,ef,r1,r2⟩:=r
    refine k_ ?_
    injection ev with ev1 ev2
    subst ev1; subst ev2; subst ef
    refine zz fun P_ k_=>?_
    obtain ⟨h1,f',h2,h3⟩:=ih e2 r2
    refine k_ ?_
    rw [List.map_cons,List.map_cons,List.map_cons,List.map_cons,List.map_cons,List.map_cons]
    by_cases hk:k1=k
    ·simp only [if_pos hk]
     refine ⟨by rw [h1],f',h2.trans (List.sublist_append_right _ _), ?_⟩
     unfold RepL
     exact ⟨w,_,[],f',rfl,rfl,rw',h3⟩
    ·simp only [if_neg hk]
     refine ⟨by rw [h1],f1++f',List.Sublist.append (List.Sublist.refl _) h2, ?_⟩
     unfold RepL
     exact ⟨v1,_,f1,f',rfl,rfl,r1,h3⟩
 ·rw [if_neg h,if_neg h]
  refine ⟨by rw [List.map_append,List.map_append,e]; rfl,f,List.Sublist.refl _, ?_⟩
  rw [List.map_append,List.map_append]
  have:=r.append (show RepL cl H [d] [w] [] by unfold RepL; exact ⟨w,[],[],[],rfl,rfl,rw',⟨rfl,rfl⟩⟩)
  rwa [List.append_nil] at this
set_option tactic.hygienic true in
theorem dput_rep {d d' y vd:D} {x v w:V} {f g:List Addr} (rd:Rep cl H d x f) (n:f.Nodup) (nf:∀ b∈f,NF H b) (ry:Rep cl H y v g) (rw':Rep cl H vd w []) (h:j8 d y vd=some d') :
  ∃ a f' o,x=.ref a∧DPut H a v w (upd H a o)∧(∀ b∈f',b∈f)∧a∈f∧(a::f').Nodup∧(∀ us,H a≠some (.tup us))∧Rep cl (upd H a o) d' (.ref a) (a::f')∧(∀ ob u,o ≠ .frz ob u):=by
 have hk:∀ {a:Addr} {f':List Addr} {o:HO},a∉f'→(∀ us,H a≠some (.tup us))→Keep f' H (upd H a o):=fun {a f' o} hn ht=>⟨fun b hb=>aj (fun z=>hn (z ▸ hb)),fun b us z=>by
  have hb:b≠a:=fun q=>ht us (by rw [← q]; exact z)
  rw [aj hb]; exact z⟩
 cases d with
 | dK l =>
  simp only [j8] at h
  split at h
  ·rename_i k hk'
   split at h
   ·rename_i hl
    injection h with h
    subst h
    refine zz fun P_ k_=>?_
    obtain ⟨a,f0,kvs,e,ef,ha,hks,r⟩:=rd
    replace ha:H a=some (.dK kvs):=ha.elim id fun ⟨o,z⟩=>absurd z (nf a (by rw [ef]; exact List.mem_cons_self) o _)
    obtain ⟨h1,f',h2,h3⟩:=put_rep (k:=k) hks (RepM.l.mp r) rw'
    refine k_ ?_
    have hlen:kvs.length < sizeLine:=by
     have:=congrArg List.length hks
     simp at this
     rw [← this,sizeLine_eq]; exact Nat.lt_of_lt_of_le ‹_› (by decide)
    subst ef
    have nt:∀ us,H a≠some (.tup us):=fun us z=>by rw [ha] at z; (injection z with z; injection z)
    have naf:a∉f':=fun z=>(List.nodup_cons.mp n).1 (h2.subset z)
    refine ⟨a,f',.dK (putK kvs k w),e,by rw [jY hk' ry]; exact DPut.k ha hlen,fun b hb=>List.mem_cons_of_mem _ (h2.subset hb),List.mem_cons_self,List.nodup_cons.mpr ⟨naf,(List.nodup_cons.mp n).2.sublist h2⟩,nt, ?_,fun _ _ z=>nomatch z⟩
    unfold Rep
    exact ⟨a,f',putK kvs k w,rfl,rfl,.inl ao,h1,RepM.l.mpr (h3.keep (hk naf nt))⟩
   ·injection h
  ·injection h
 | dT l =>
  cases y with
  | tup ks =>
   simp only [j8] at h
   split at h
   ·rename_i k hk'
    split at h
    ·rename_i hl
     injection h with h
     subst h
     refine zz fun P_ k_=>?_
     obtain ⟨a,f0,kvs,e,ef,ha,hks,r⟩:=rd
     obtain ⟨b,vs,eb,hb,rl⟩:=ry
     refine k_ ?_
     have ev:=jX hk' rl
     subst ev
     refine zz fun P_ k_=>?_
     obtain ⟨h1,f',h2,h3⟩:=put_rep (k:=k) hks (RepT.l.mp r) rw'
     refine k_ ?_
     have hlen:kvs.length < sizeLine:=by
      have:=congrArg List.length hks
      simp at this
      rw [← this,sizeLine_eq]; exact Nat.lt_of_lt_of_le ‹_› (by decide)
     subst ef
     have nt:∀ us,H a≠some (.tup us):=fun us z=>by rw [ha] at z; (injection z with z; injection z)
     have naf:a∉f':=fun z=>(List.nodup_cons.mp n).1 (h2.subset z)
     refine ⟨a,f',.dT (putK kvs k w),e,by rw [eb]; exact DPut.t ha hb hlen,fun b hb=>List.mem_cons_of_mem _ (h2.subset hb),List.mem_cons_self,List.nodup_cons.mpr ⟨naf,(List.nodup_cons.mp n).2.sublist h2⟩,nt, ?_,fun _ _ z=>nomatch z⟩
     unfold Rep
     exact ⟨a,f',putK kvs k w,rfl,rfl,ao,h1,RepT.l.mpr (h3.keep (hk naf nt))⟩
    ·injection h
   ·injection h
  | _=>injection h
 | _=>injection h
end
section
variable {X:Cx} {cl:Nat→Addr} {H:Hp}
set_option tactic.hygienic true in
theorem eqLs_keys {n:Nat}:∀ {l m:List D} {ks js:List Key},cu l=some ks→cu m=some js→eqLs (eqN (n+1)) l m=some (decide (ks=js)):=by
 intro x_0
 induction x_0 with
 | nil =>
  intro x_1
  cases x_1 with
  | nil =>
   intro ks js h1 h2
   (injection h1 with h1; subst h1); (injection h2 with h2; subst h2); rfl
  | cons d m =>
   intro ks js h1 h2
   (injection h1 with h1; subst h1)
   simp only [cu] at h2
   split at h2
   ·(injection h2 with h2; subst h2); rfl
   ·injection h2
 | cons d l ih_ =>
  intro x_1
  cases x_1 with
  | nil =>
   intro ks js h1 h2
   (injection h2 with h2; subst h2)
   simp only [cu] at h1
   split at h1
   ·(injection h1 with h1; subst h1); rfl
   ·injection h1
  | cons e m =>
   intro ks js h1 h2
   simp only [cu] at h1 h2
   split at h1
   ·rename_i k1 k2 a1 a2
    split at h2
    ·rename_i j1 j2 b1 b2
     injection h1 with h1
     injection h2 with h2
     subst h1; subst h2
     have rest:=ih_ a2 b2
     have one:eqN (n+1) d e=some (decide (k1=j1)):=by
      cases d with
      | int i =>
       (injection a1 with a1; subst a1)
       cases e with
       | int j=>(injection b1 with b1; subst b1); rw [eqN_3]; congr 1; by_cases h:i=j <;> simp [h]
       | str j=>(injection b1 with b1; subst b1); rw [eqN_15]; congr 1
       | _=>injection b1
      | str i =>
       (injection a1 with a1; subst a1)
       cases e with
       | int j=>(injection b1 with b1; subst b1); rw [eqN_16]; congr 1
       | str j=>(injection b1 with b1; subst b1); rw [eqN_4]; congr 1; by_cases h:i=j <;> simp [h]
       | _=>injection b1
      | _=>injection a1
     simp only [eqLs,one,rest]
     congr 1
     by_cases h:k1=j1 <;> by_cases h':k2=j2 <;> simp [h,h']
    ·injection h2
   ·injection h1
theorem tup_keys {d:D} {x:V} {f:List Addr} {l:List D} {ks:List Key} (e:d=.tup l) (r:Rep cl H d x f) (h:cu l=some ks):∃ a,x=.ref a∧H a=some (.tup (ks.map kV)):=by
 subst e
 obtain ⟨a,vs,e,ha,r⟩:=r
 exact ⟨a,e,by rw [ha,jX h r]⟩
theorem kV_inj:∀ {a b:Key},kV a=kV b→a=b
 | .inl a,.inl b,h=>by (injection h with h; subst h); rfl
 | .inr a,.inr b,h=>by (injection h with h; subst h); rfl
 | .inl _,.inr _,h=>nomatch h
 | .inr _,.inl _,h=>nomatch h
theorem mapKV_inj:∀ {a b:List Key},a.map kV=b.map kV→a=b:=by
 intro x_0
 induction x_0 with
 | nil =>
  intro x_1
  cases x_1 with
  | nil =>
   intro _
   exact rfl
  | cons _ _ =>
   intro h
   exact nomatch h
 | cons x a ih_ =>
  intro x_1
  cases x_1 with
  | nil =>
   intro h
   exact nomatch h
  | cons y b =>
   intro h
   injection h with h1 h2
   rw [kV_inj h1,ih_ h2]
open Classical in
noncomputable def isT (H:Hp) (k:List Key) (u:Value):Bool:=decide (∃ a,u=.ref a∧H a=some (.tup (k.map kV)))
theorem isT_of {k j:List Key} {a:Addr} (h:H a=some (.tup (j.map kV))):isT H k (.ref a)=decide (j=k):=by
 unfold isT
 apply decide_eq_decide.mpr
 constructor
 ·rintro ⟨b,e,z⟩
  (injection e with e; subst e)
  rw [h] at z
  injection z with z
  injection z with z
  exact mapKV_inj z
 ·rintro rfl
  exact ⟨a,rfl,h⟩
set_option tactic.hygienic true in
theorem memT_rep {pins:List (Addr × Obj)} {σ:L2.St} {s:Shared} (I:Inv X pins σ H s) {x:V} {v:Value} {f:List Addr} {t:List D} {k:List Key} (hk:cu t=some k) (rx:Rep cl H (.tup t) x f) (rv:RelV x v) {A:Around} (hA:A.units+2 < cLine) :
  ∀ {l:List D} {vs:List V} {us:List Value} {g:List Addr} {ks:List (List Key)},tupKs l=some ks→RepL cl H l vs g→Vals vs us→(∀ u∈us,SeqAt.EqAt A s u v (isT H k u))∧us.any (isT H k)=ks.any fun j=>decide (j=k):=by
 intro x_0
 induction x_0 with
 | nil =>
  intro vs us g ks h r w
  (injection h with h; subst h)
  obtain ⟨e,_⟩:=r
  subst e
  cases w
  exact And.intro (fun u hu=>absurd hu List.not_mem_nil) rfl
 | cons d l ih_ =>
  intro vs us g ks h r w
  obtain ⟨y,vr,f1,g1,e,_,r1,r2⟩:=r
  subst e
  cases w with
  | cons ry rr =>
   cases d with
   | tup m =>
    simp only [tupKs] at h
    split at h
    ·rename_i j js hj hjs
     (injection h with h; subst h)
     obtain ⟨h1,h2⟩:=ih_ hjs r2 rr
     obtain ⟨a,ea,ha⟩:=tup_keys rfl r1 hj
     have ry0:=ry
     subst ea
     subst ry
     have e1:=isT_of (k:=k) ha
     refine ⟨fun u hu=>?_,by rw [List.any_cons,List.any_cons,h2,e1]⟩
     rcases List.mem_cons.mp hu with rfl | hu
     ·rw [e1]
      exact (eq_ok (n:=2) (a:=.tup m) (b:=.tup t) I (eqLs_keys hj hk) r1 rx ry0 rv hA).2.1
     ·exact h1 u hu
    ·injection h
   | _=>injection h
set_option tactic.hygienic true in
theorem memT_ok {d1:D} {l:List D} {k:Bool} (hu:X.A.units+8 < cLine) (h:memT d1 l=some k):cX X cl .In d1 (.lst l) k∧cX X cl .NotIn d1 (.lst l) (!k):=by
 cases d1 with
 | tup t =>
  simp only [memT] at h
  split at h
  ·rename_i j js hj hjs
   (injection h with h; subst h)
   have hA:X.A.in1.units+2 < cLine:=by show X.A.units+1+2 < cLine; (clear hj hjs; omega)
   refine ⟨fun pins s σ H x y v u Q f g I rx ry r1 r2 q=>?_,fun pins s σ H x y v u Q f g I rx ry r1 r2 q=>?_⟩
   all_goals
    refine zz fun P_ k_=>?_
    obtain ⟨a,vs,its,g',e1,_,il,vv,rl⟩:=lst_val I r2 ry
    refine k_ ?_
    subst e1
    obtain ⟨m1,m2⟩:=memT_rep I hj r1 rx hA hjs rl vv
    have m3:its.toArray.any (isT H j)=js.any fun i=>decide (i=j):=by rw [← m2]; simp
   ·refine SeqAt.in_listAt (isT H j) il (fun w hw=>m1 w (by simpa using hw)) ⟨.bl _,H,I,rfl, ?_⟩
    rw [m3]; exact q
   ·refine SeqAt.notIn_listAt (isT H j) il (fun w hw=>m1 w (by simpa using hw)) ⟨.bl _,H,I,rfl, ?_⟩
    rw [m3]; exact q
  ·injection h
 | _=>injection h
end
section
variable {X:Cx} {cl:Nat→Addr} {M:Tab} {a b c e o:Expr} {es rest:List Expr} {pos p p2 apos:Pos} {a' b' c' e' o':E} {es':List E}
theorem isN_rep {d:D} {x:V} {H:Hp} {f:List Addr} (r:Rep cl H d x f):decide (x=.non)=isNon d:=by
 cases d
 case non=>rw [r.1]; rfl
 case bl=>rw [r.1]; rfl
 case int=>rw [r.1]; rfl
 case str=>rw [r.1]; rfl
 case tup=>obtain ⟨a,vs,e,_,_⟩:=r; rw [e]; rfl
 case lst=>obtain ⟨a,vs,f,e,_,_,_⟩:=r; rw [e]; rfl
 case dK=>obtain ⟨a,f,kvs,e,_,_,_,_⟩:=r; rw [e]; rfl
 case dT=>obtain ⟨a,f,kvs,e,_,_,_,_⟩:=r; rw [e]; rfl
 case obj=>obtain ⟨a,dx,f,gs,e,_,_,_,_,_⟩:=r; rw [e]; rfl
theorem mem_dict {d1 d2:D} {o:Option D} (hu:X.A.units+1 < cLine) (h1:da d2 d1=some o):cX X cl .In d1 d2 o.isSome∧cX X cl .NotIn d1 d2 (!o.isSome):=by
 have key:∀ {H:Hp} {x y:V} {f g:List Addr},Rep cl H d1 x f→Rep cl H d2 y g→∃ a o',y=.ref a∧DGet H a x o'∧o'.isSome=o.isSome:=fun {H x y f g} r1 r2=>by
  refine zz fun P_ k_=>?_
  obtain ⟨a,o',ey,_,dg,ho⟩:=gQ r2 r1 h1
  refine k_ ?_
  exact ⟨a,o',ey,dg,ho.elim (fun z=>by rw [z.1,z.2]; rfl) fun z=>by obtain ⟨_,_,_,z1,z2,_⟩:=z; rw [z1,z2]; rfl⟩
 refine ⟨fun pins s σ H x y v u Q f g I rx ry r1 r2 q=>?_,fun pins s σ H x y v u Q f g I rx ry r1 r2 q=>?_⟩
 ·refine zz fun P_ k_=>?_
  obtain ⟨a,o',ey,dg,eo⟩:=key r1 r2
  refine k_ ?_
  subst ey
  subst ry
  exact d_in hu I dg rx fun s3 I3=>⟨.bl o'.isSome,H,I3,rfl,by rw [eo]; exact q⟩
 ·refine zz fun P_ k_=>?_
  obtain ⟨a,o',ey,dg,eo⟩:=key r1 r2
  refine k_ ?_
  subst ey
  subst ry
  exact d_notIn hu I dg rx fun s3 I3=>⟨.bl (!o'.isSome),H,I3,rfl,by rw [eo]; exact q⟩
theorem mem_seq {d1 d2:D} {l:List D} {k:Bool} (hk:(dt d1).isSome=true) (h:memL d1 l=some k) (rd:∀ {H:Hp} {y:V} {g:List Addr},Rep cl H d2 y g→∃ p vs g',y=.ref p∧(SqL X.K H p vs∨SqT X.K H p vs)∧RepL cl H l vs g'):cX X cl .In d1 d2 k∧cX X cl .NotIn d1 d2 (!k):=by
 have flatx:∀ {x:V} {H:Hp} {f:List Addr},Rep cl H d1 x f→fE x=true:=fun {x H f} r=>by
  cases d1 with
  | int i=>rw [r.1]; rfl
  | str i=>rw [r.1]; rfl
  | _=>injection hk
 have key:∀ {H:Hp} {x y:V} {f g:List Addr},Rep cl H d1 x f→Rep cl H d2 y g→∃ p vs,y=.ref p∧(SqL X.K H p vs∨SqT X.K H p vs)∧fE x=true∧vs.all fE=true∧inV x vs=k:=fun {H x y f g} r1 r2=>by
  refine zz fun P_ k_=>?_
  obtain ⟨p,vs,g',e,hl,rl⟩:=rd r2
  obtain ⟨m1,m2,_⟩:=mem_rep r1 h rl
  refine k_ ?_
  exact ⟨p,vs,e,hl,flatx r1,m1,m2⟩
 refine ⟨cX.of op_in_seq fun x y H Q f g r1 r2 q=>?_,cX.of op_notIn_seq fun x y H Q f g r1 r2 q=>?_⟩
 ·refine zz fun P_ k_=>?_
  obtain ⟨p,vs,e,hl,fx,m1,m2⟩:=key r1 r2
  refine k_ ?_
  exact ⟨p,vs,e,hl,fx,m1,by rw [m2]; exact q⟩
 ·refine zz fun P_ k_=>?_
  obtain ⟨p,vs,e,hl,fx,m1,m2⟩:=key r1 r2
  refine k_ ?_
  exact ⟨p,vs,e,hl,fx,m1,by rw [m2]; exact q⟩
theorem mem_ok {d1 d2:D} {k:Bool} (hu:X.A.units+8 < cLine) (h:memD d1 d2=some k):cX X cl .In d1 d2 k∧cX X cl .NotIn d1 d2 (!k):=by
 have hu1:X.A.units+1 < cLine:=by (clear h; omega)
 have dict:(match da d2 d1 with | some o=>some o.isSome | none=>none)=some k→cX X cl .In d1 d2 k∧cX X cl .NotIn d1 d2 (!k):=fun h=>by
  cases ho:da d2 d1 with
  | none=>rw [ho] at h; injection h
  | some o=>rw [ho] at h; injection h with h; subst h; exact mem_dict hu1 ho
 cases d2 with
 | lst l =>
  by_cases hk:(dt d1).isSome=true
  ·exact mem_seq hk ((if_pos hk).symm.trans h) fun r=>let ⟨p,vs,g',e,hl,rl⟩:=bX (K:=X.K) r; ⟨p,vs,g',e,.inl hl,rl⟩
  ·exact memT_ok hu ((if_neg hk).symm.trans h)
 | tup l =>
  by_cases hk:(dt d1).isSome=true
  ·exact mem_seq hk ((if_pos hk).symm.trans h) fun r=>let ⟨p,vs,e,hl,rl⟩:=gF (K:=X.K) r; ⟨p,vs,_,e,.inr hl,rl⟩
  ·exact absurd ((if_neg hk).symm.trans h) (by intro z; injection z)
 | dK l=>exact dict h
 | dT l=>exact dict h
 | _=>exact dict h
theorem cmp_ok {o:Cp} {d1 d2:D} {t:Bool} (hu:X.A.units+8 < cLine) (h:cmpD o d1 d2=.ok t):cX X cl (cpOf o) d1 d2 t:=by
 have intc:∀ {op:CmpOp} {g:Int→Int→Bool},OpR X (compareOp op) (rI0 fun a b=>.bl (g a b))→i2 (fun a b=>.ok (g a b)) d1 d2=.ok t→cX X cl op d1 d2 t:=fun {op g} ho h=>by
  obtain ⟨i,j,e1,e2,h⟩:=i2_ok h
  subst e1; subst e2
  injection h with h; subst h
  exact cX.of ho fun x y H Q f g' r1 r2 q=>⟨i,j,r1.1,r2.1,q⟩
 have eqc:∀ {g:Bool→Bool},(match eqD d1 d2 with | some k=>R.ok (g k) | none=>.bad)=.ok t→∃ k,eqD d1 d2=some k∧g k=t:=fun {g} h=>by
  cases hk:eqD d1 d2 with
  | none=>rw [hk] at h; injection h
  | some k=>rw [hk] at h; injection h with h; exact ⟨k,rfl,h⟩
 have memc:∀ {g:Bool→Bool},(match memD d1 d2 with | some k=>R.ok (g k) | none=>.bad)=.ok t→∃ k,memD d1 d2=some k∧g k=t:=fun {g} h=>by
  cases hk:memD d1 d2 with
  | none=>rw [hk] at h; injection h
  | some k=>rw [hk] at h; injection h with h; exact ⟨k,rfl,h⟩
 have non2:isNon d2=true→d2=.non:=fun h=>by
  cases d2 with
  | non=>rfl
  | _=>injection h
 cases o with
 | eq =>
  obtain ⟨k,hk,e⟩:=eqc (g:=id) h
  subst e
  exact cX.of (op_eqD hu) fun x y H Q f g r1 r2 q=>⟨d1,d2,k,f,g,r1,r2,hk,q⟩
 | ne =>
  obtain ⟨k,hk,e⟩:=eqc h
  subst e
  exact cX.of (op_neD hu) fun x y H Q f g r1 r2 q=>⟨d1,d2,k,f,g,r1,r2,hk,q⟩
 | lt=>exact intc op_lt h
 | le=>exact intc op_le h
 | gt=>exact intc op_gt h
 | ge=>exact intc op_ge h
 | isN =>
  obtain ⟨h1,h2⟩:=jf h
  have:=non2 h1
  subst this; subst h2
  exact cX.of op_isN fun x y H Q f g r1 r2 q=>⟨r2.1,by rw [isN_rep r1]; exact q⟩
 | notN =>
  obtain ⟨h1,h2⟩:=jf h
  have:=non2 h1
  subst this; subst h2
  exact cX.of op_notN fun x y H Q f g r1 r2 q=>⟨r2.1,by rw [isN_rep r1]; exact q⟩
 | mem =>
  obtain ⟨k,hk,e⟩:=memc (g:=id) h
  subst e
  exact (mem_ok hu hk).1
 | nmem =>
  obtain ⟨k,hk,e⟩:=memc h
  subst e
  exact (mem_ok hu hk).2
theorem g_cmp {o:Cp} (hu:X.A.units+8 < cLine) (hm:behindInMarks (cpOf o) b=false) (ha:GE X cl M a a') (hb:GE X cl M b b'):GE X cl M (.Compare a [cpOf o] [b] pos) (.cmp o a' b')∧GT X cl M (.Compare a [cpOf o] [b] pos) (.cmp o a' b'):=by
 refine ⟨fun ρ d k h=>?_,fun ρ d k t h h2=>?_⟩
 ·rw [rE_cmp] at h
  obtain ⟨⟨x,kx⟩,h1,h⟩:=R.bind_ok h
  obtain ⟨⟨y,ky⟩,h2,h⟩:=R.bind_ok h
  obtain ⟨z,h3,h⟩:=R.bind_ok h
  simp only [R.pure_eq,R.ok.injEq,Prod.mk.injEq] at h; obtain ⟨rfl,rfl⟩:=h
  exact e_cmp (cmp_ok hu h3).opR hm (ha ρ x kx h1) (hb ρ y ky h2) fun x y H Q f g r1 r2 q=>⟨f,g,r1,r2,q⟩
 ·rw [rE_cmp] at h
  obtain ⟨⟨x,kx⟩,h1,h⟩:=R.bind_ok h
  obtain ⟨⟨y,ky⟩,h2',h⟩:=R.bind_ok h
  obtain ⟨z,h3,h⟩:=R.bind_ok h
  simp only [R.pure_eq,R.ok.injEq,Prod.mk.injEq] at h; obtain ⟨rfl,rfl⟩:=h
  (injection h2 with h2; subst h2)
  exact t_cmp (cmp_ok hu h3).opR hm (ha ρ x kx h1) (hb ρ y ky h2') fun x y H Q f g r1 r2 q=>⟨f,g,r1,r2,q⟩
end
end Vi
namespace Vi
open PySem PySem.Spec PyProof.Rows L2
noncomputable def cz (H H':Hp) (fp:List Addr):Prop:=fp.Nodup∧∀ a∈fp,H a=none∧NF H' a
theorem cz.nil {H H':Hp}:cz H H' []:=⟨List.nodup_nil,fun _ h=>nomatch h⟩
theorem cz.one {H H':Hp} {p:Addr} (h:H p=none) (h':NF H' p):cz H H' [p]:=⟨by simp,fun a ha=>by rw [List.mem_singleton.mp ha]; exact ⟨h,h'⟩⟩
theorem cz.k {ρ:Env} {F:Nat→List Addr} {H H0 H1 H':Hp} {fp:List Addr} (s:Same H H1) (h:cz H1 H' fp):KOk ρ F H H0 H' fp (.sto []):=⟨h.1,fun _ z=>(nomatch z),fun a ha=>.inl (s.free (h.2 a ha).1),fun a ha=>(h.2 a ha).2⟩
theorem cz.kd {ρ:Env} {F:Nat→List Addr} {H H0 H1 H':Hp} {fp:List Addr} {z:D} (s:Same H H1) (h:cz H1 H' fp):KOk ρ F H H0 H' fp (kdOf z):=by
 unfold kdOf
 by_cases hz:z.flat=true
 ·rw [if_pos hz]; exact h.k s
 ·rw [if_neg hz]; exact True.intro
theorem imm_k {cl:Nat→Addr} {ρ:Env} {F:Nat→List Addr} {H H0 H':Hp} {fp:List Addr} {z:D} {v:V} (r:Rep cl H' z v fp):KOk ρ F H H0 H' fp (immK z):=by
 unfold immK
 by_cases hz:z.imm=true
 ·rw [if_pos hz]; exact KOk.imm r hz
 ·rw [if_neg hz]; exact True.intro
theorem ii {H:Hp} {a:Addr} {o:HO} (h:∀ ob u,o ≠ .frz ob u):NF (upd H a o) a:=fun ob u z=>by rw [ao] at z; exact h ob u (Option.some.inj z)
section
variable {X:Cx} {cl:Nat→Addr} {M:Tab} {a b c e o:Expr} {es rest:List Expr} {pos p p2 apos cpos:Pos} {a' b' c' e' o':E} {es':List E}
theorem isd_rep {H:Hp} {d y:D} {x:V} {f:List Addr} {o:Option D} (rd:Rep cl H d x f) (h:da d y=some o):∃ a,x=.ref a∧IsD H a:=by
 cases d with
 | dK l=>unfold Rep at rd; obtain ⟨a,f',kvs,e,ef,ha,_⟩:=rd; exact ⟨a,e,.inl ⟨kvs,ha⟩⟩
 | dT l=>unfold Rep at rd; obtain ⟨a,f',kvs,e,ef,ha,_⟩:=rd; exact ⟨a,e,.inr ⟨kvs,.inl ha⟩⟩
 | _=>injection h
theorem g_get1 (hu : X.A.units + 1 < cLine) (m : M1 X o "get" apos e cpos) (ho : GE X cl M o o') (he : GE X cl M e e') : GE X cl M (.Call (.Attribute o "get" apos) [e] [] cpos) (.get1 o' e') := fun ρ d k h => by
 rw [jP] at h
 obtain ⟨⟨x,kx⟩,h1,h⟩:=R.bind_ok h
 obtain ⟨⟨y,ky⟩,h2,h⟩:=R.bind_ok h
 simp only at h
 split at h
 ·rename_i r hr
  simp only [R.pure_eq,R.ok.injEq,Prod.mk.injEq] at h; obtain ⟨rfl,rfl⟩:=h
  refine bj (pe_dget1 hu (ho ρ x kx h1) (he ρ y ky h2) m) fun σ H Q ⟨H0,F,S,q⟩=>⟨H0,F,S,fun v H1 fp s1 r1 _=>?_⟩
  obtain ⟨a,ea,hd⟩:=isd_rep r1 hr
  refine ⟨a,ea,hd,H0,F,S.step s1,fun w H2 fp2 s2 r2 _=>?_⟩
  obtain ⟨a2,o2,ea2,_,dg,ho2⟩:=gQ (r1.same s2) r2 hr
  rw [ea] at ea2
  (injection ea2 with ea2; subst ea2)
  refine ⟨o2,dg, ?_⟩
  rcases ho2 with ⟨z1,z2⟩ | ⟨dv,w2,fw,z1,z2,z3,z4⟩
  ·subst z1; subst z2; exact q .non H2 [] (s1.trans s2) ⟨rfl,rfl⟩ (imm_k (z:=.non) (cl:=cl) (v:=.non) ⟨rfl,rfl⟩)
  ·subst z1; subst z2; exact q w2 H2 fw (s1.trans s2) z3 (imm_k z3)
 ·injection h
theorem g_get2 {f : Expr} {f' : E} (hu : X.A.units + 1 < cLine) (m : M2 X o "get" apos e f cpos) (ho : GE X cl M o o') (he : GE X cl M e e') (hf : GE X cl M f f') : GE X cl M (.Call (.Attribute o "get" apos) [e, f] [] cpos) (.get2 o' e' f') := fun ρ d k h => by
 rw [rE_get2] at h
 obtain ⟨⟨x,kx⟩,h1,h⟩:=R.bind_ok h
 obtain ⟨⟨y,ky⟩,h2,h⟩:=R.bind_ok h
 obtain ⟨⟨z,kz⟩,h3,h⟩:=R.bind_ok h
 simp only at h
 split at h
 ·rename_i r hr
  simp only [R.pure_eq,R.ok.injEq,Prod.mk.injEq] at h; obtain ⟨rfl,rfl⟩:=h
  refine bj (pe_dget2 hu (ho ρ x kx h1) (he ρ y ky h2) (hf ρ z kz h3) m) fun σ H Q ⟨H0,F,S,q⟩=>⟨H0,F,S,fun v H1 fp s1 r1 _=>?_⟩
  obtain ⟨a,ea,hd⟩:=isd_rep r1 hr
  refine ⟨a,ea,hd,H0,F,S.step s1,fun w H2 fp2 s2 r2 _=>⟨H0,F,(S.step s1).step s2,fun u H3 fp3 s3 r3 _=>?_⟩⟩
  obtain ⟨a2,o2,ea2,_,dg,ho2⟩:=gQ ((r1.same s2).same s3) (r2.same s3) hr
  rw [ea] at ea2
  (injection ea2 with ea2; subst ea2)
  refine ⟨o2,dg, ?_⟩
  rcases ho2 with ⟨z1,z2⟩ | ⟨dv,w2,fw,z1,z2,z3,z4⟩
  ·subst z1; subst z2; exact q u H3 fp3 ((s1.trans s2).trans s3) r3 (imm_k r3)
  ·subst z1; subst z2; exact q w2 H3 fw ((s1.trans s2).trans s3) z3 (imm_k z3)
 ·injection h
theorem g_dix (hu:X.A.units+1 < cLine) (hs:NoSl b) (ha:GE X cl M a a') (hb:GE X cl M b b'):GE X cl M (.Subscript a b pos) (.dix a' b'):=fun ρ d k h=>by
 rw [rE_dix] at h
 obtain ⟨⟨x,kx⟩,h1,h⟩:=R.bind_ok h
 obtain ⟨⟨y,ky⟩,h2,h⟩:=R.bind_ok h
 simp only at h
 split at h
 ·rename_i r hr
  simp only [R.pure_eq,R.ok.injEq,Prod.mk.injEq] at h; obtain ⟨rfl,rfl⟩:=h
  refine bj (pe_dget hu (ha ρ x kx h1) (hb ρ y ky h2) hs) fun σ H Q ⟨H0,F,S,q⟩=>tD2 S fun u v H1 H2 f g s1 s2 r1 r2 _ _ _=>?_
  obtain ⟨a2,o2,ea2,_,dg,ho2⟩:=gQ r1 r2 hr
  rcases ho2 with ⟨z1,z2⟩ | ⟨dv,w2,fw,z1,z2,z3,z4⟩
  ·injection z1
  ·(injection z1 with z1; subst z1)
   exact ⟨a2,w2,ea2,by rw [← z2]; exact dg,q w2 H2 fw (s1.trans s2) z3 (imm_k z3)⟩
 ·injection h
theorem look_rep {H:Hp} {x:Str}:∀ {fs:List (Str × D)} {gs:List (Str × V)} {f:List Addr},fs.map (·.1)=gs.map (·.1)→RepL cl H (fs.map (·.2)) (gs.map (·.2)) f →
  (fs.lookup x=none∧gs.lookup x=none)∨∃ d w fw,fs.lookup x=some d∧gs.lookup x=some w∧Rep cl H d w fw∧∀ b∈fw,b∈f:=by
 intro x_0
 induction x_0 with
 | nil =>
  intro x_1
  cases x_1 with
  | nil =>
   intro _ _ _
   exact .inl ⟨rfl,rfl⟩
  | cons _ _ =>
   intro _ e _
   simp at e
 | cons p_0 l ih_ =>
  obtain ⟨k1,d⟩:=p_0
  intro x_1
  cases x_1 with
  | nil =>
   intro _ e _
   simp at e
  | cons p_1 kvs =>
   obtain ⟨k2,v⟩:=p_1
   intro f e r
   rw [List.map_cons,List.map_cons] at e r
   injection e with e1 e2
   obtain ⟨v',vr,f1,g1,ev,ef,r1,r2⟩:=r
   injection ev with ev1 ev2
   subst ev1; subst ev2; subst ef
   have e1:k1=k2:=e1
   subst e1
   rw [List.lookup_cons,List.lookup_cons]
   cases hx:x == k1 with
   | true=>exact .inr ⟨d,v,f1,rfl,rfl,r1,fun b hb=>List.mem_append_left _ hb⟩
   | false =>
    rcases ih_ e2 r2 with z | ⟨dv,w,fw,z1,z2,z3,z4⟩
    ·exact .inl z
    ·exact .inr ⟨dv,w,fw,z1,z2,z3,fun b hb=>List.mem_append_right _ (z4 b hb)⟩
theorem iY {x:Str} (hb:attributeBase e x X.env (eval e X.env)=eval e X.env) (hc:∀ c,Cls X.K (cl c)∧d4 X.K (cl c) x) (he:GE X cl M e e'):GE X cl M (.Attribute e x pos) (.fld e' x):=fun ρ d k h=>by
 rw [rE_fld] at h
 refine zz fun P_ k_=>?_
 obtain ⟨⟨v,kv⟩,h1,h⟩:=R.bind_ok h
 refine k_ ?_
 cases v with
 | obj c fs =>
  simp only at h
  split at h
  ·rename_i dv hl
   simp only [R.pure_eq,R.ok.injEq,Prod.mk.injEq] at h; obtain ⟨rfl,rfl⟩:=h
   refine bj (pe_fld (he ρ _ kv h1) hb) fun σ H Q ⟨H0,F,S,q⟩=>⟨H0,F,S,fun w H1 fp s1 r1 k1=>?_⟩
   have r1':=r1
   refine zz fun P_ k_=>?_
   obtain ⟨a,dx,f,gs,e1,ef,ha,hd,hn,r⟩:=r1
   refine k_ ?_
   rcases look_rep (x:=x) hn (RepF.l.mp r) with ⟨z,_⟩ | ⟨d2,w2,fw,z1,z2,z3,z4⟩
   ·rw [hl] at z; injection z
   ·rw [hl] at z1; (injection z1 with z1; subst z1)
    exact ⟨a,cl c,dx,gs,w2,e1,ha,(hc c).1,(hc c).2,z2,q w2 H1 fw s1 z3 (part_ok z3 (fun b hb=>by rw [ef]; exact List.mem_cons_of_mem _ (List.mem_cons_of_mem _ (z4 b hb))) k1)⟩
  ·injection h
 | _=>injection h
theorem g_ix (hs:PlainIx b) (ha:GE X cl M a a') (hb:GE X cl M b b'):GE X cl M (.Subscript a b pos) (.ix a' b'):=fun ρ d k h=>by
 rw [rE_ix] at h
 obtain ⟨⟨x,kx⟩,h1,h⟩:=R.bind_ok h
 obtain ⟨⟨y,ky⟩,h2,h⟩:=R.bind_ok h
 obtain ⟨z,h3,h⟩:=R.bind_ok h
 simp only [R.pure_eq,R.ok.injEq,Prod.mk.injEq] at h; obtain ⟨rfl,rfl⟩:=h
 exact e_ix h3 (ha ρ x kx h1) (hb ρ y ky h2) hs
theorem ah:GA X cl M [] []:=fun ρ ds k h=>by
 simp only [h9,eh,R.ok.injEq,Prod.mk.injEq] at h; obtain ⟨rfl,rfl⟩:=h; exact a_nil
theorem ac (hs:starEach (e::es) X.env=(false,eval e X.env)::starEach es X.env) (h1:GE X cl M e e') (h2:GA X cl M es es'):GA X cl M (e::es) (e'::es'):=fun ρ ds k h=>by
 rw [eh] at h
 obtain ⟨⟨x,kx⟩,g1,h⟩:=R.bind_ok h
 obtain ⟨⟨xs,ks⟩,g2,h⟩:=R.bind_ok h
 simp only [R.pure_eq,R.ok.injEq,Prod.mk.injEq] at h; obtain ⟨rfl,rfl⟩:=h
 exact a_cons (h1 ρ x kx g1) (h2 ρ xs ks g2) hs
theorem iC {x1} (h:GA X cl M es es'):GE X cl M (.Tuple es x1 pos) (.tup es'):=fun ρ d k hr=>by
 rw [rE_tup] at hr
 obtain ⟨⟨xs,ks⟩,g2,hr⟩:=R.bind_ok hr
 simp only at hr
 split at hr
 ·rename_i hl
  simp only [R.pure_eq,R.ok.injEq,Prod.mk.injEq] at hr; obtain ⟨rfl,rfl⟩:=hr
  exact e_tup (h ρ xs ks g2) hl
 ·injection hr
theorem dw (h:GA X cl M es es'):GE X cl M (.List es pos) (.lst es'):=fun ρ d k hr=>by
 rw [rE_lst] at hr
 obtain ⟨⟨xs,ks⟩,g2,hr⟩:=R.bind_ok hr
 simp only at hr
 split at hr
 ·rename_i hl
  simp only [R.pure_eq,R.ok.injEq,Prod.mk.injEq] at hr; obtain ⟨rfl,rfl⟩:=hr
  exact e_lst (h ρ xs ks g2) hl
 ·injection hr
theorem g_dnew {t:Bool}:GE X cl M (.Dict [] [] pos) (.dnew t):=fun ρ d k h=>by
 simp only [rE_dnew,R.ok.injEq,Prod.mk.injEq] at h; obtain ⟨rfl,rfl⟩:=h
 cases t with
 | true=>exact bj pe_dnewT fun σ H Q ⟨H0,F,S,q⟩ p hp=>q (.ref p) _ [p] (Same.new hp) (by rw [if_pos rfl]; unfold Rep; exact ⟨p,[],[],rfl,rfl,ao,rfl,by unfold RepT; exact ⟨rfl,rfl⟩⟩) ((cz.one hp (ii (o:=.dT []) (by intro _ _ z; injection z))).k (Same.refl H))
 | false=>exact bj pe_dnewK fun σ H Q hh_ p hp=>(by obtain ⟨H0,F,S,q⟩:=hh_; exact (q (.ref p) _ [p] (Same.new hp) (by rw [if_neg Bool.false_ne_true]; unfold Rep; exact ⟨p,[],[],rfl,rfl,.inl ao,rfl,by unfold RepM; exact ⟨rfl,rfl⟩⟩) ((cz.one hp (ii (o:=.dK []) (by intro _ _ z; injection z))).k (Same.refl H))))
theorem g_call {i kk:Nat} {f:Addr} {fd:FuncData} {ps:List Str} {x:Str} (F:FnOk X.prog X.w X.K X.mg X.base CX0 kk f fd ps (spP cl (M.fn i))) (hr:Room kk X.A) (hg:Gl X x) (hm:X.mg x=some (.ref f)) (hk:PySem.W.keepIn X.K (.ref f)=true) (hb:eN X.K fd ps [])
  (hd : (x == ("__debug__" : Str)) = false) (he : starEach (e :: es) X.env = (false, eval e X.env) :: starEach es X.env) (hpl : (backTo pos (starEach es X.env)).any (·.1) = false) (ha : GA X cl M (e :: es) es') : GE X cl M (.Call (.Name x p) (e :: es) [] pos) (.call i es') := fun ρ d k h => by
 rw [rE_call] at h
 obtain ⟨⟨xs,ks⟩,g2,h⟩:=R.bind_ok h
 obtain ⟨r,g3,h⟩:=R.bind_ok h
 simp only [R.pure_eq,R.ok.injEq,Prod.mk.injEq] at h; obtain ⟨rfl,rfl⟩:=h
 exact e_call F hr hg hm hk hb (ha ρ xs ks g2) g3 hd he hpl
theorem fZ {H:Hp} {m:Str} {fs:List (Str × D)} {gs:List (Str × V)} {f:List Addr} (hn:fs.map (·.1)=gs.map (·.1)) (r:RepL cl H (fs.map (·.2)) (gs.map (·.2)) f) (h:fs.lookup m=none):gs.lookup m=none:=by
 rcases look_rep (x:=m) hn r with ⟨_,z⟩ | ⟨d2,w2,fw,z1,_⟩
 ·exact z
 ·rw [h] at z1; injection z1
theorem g_meth {i kk:Nat} {C f:Addr} {fd:FuncData} {ps:List Str} {m:Str} {pl:Sem Bool} (hC:∀ c,cl c=C) (c:Cls X.K C) (hm:Meth X.K C m f) (F:FnOk X.prog X.w X.K X.mg X.base CX0 kk f fd ps (spP cl (M.fn i))) (hr:Room kk X.A) (hb:eN X.K fd ps [])
  (hst:starEach (e::es) X.env=(false,eval e X.env)::starEach es X.env) (hpl:(backTo pos (starEach es X.env)).any (·.1)=false)
  (ht:eval (.Call (.Attribute o m apos) (e::es) [] pos) X.env=(do
   let ov ← eval o X.env
   standAt apos.atName
   let (f,first) ← holding [ov] (getMethod ov m pl)
   callWith pos f first (backTo pos (starEach (e::es) X.env)) (backToKw pos (keywordEach [] X.env))))
  (ho:GE X cl M o o') (ha:GA X cl M (e::es) es'):GE X cl M (.Call (.Attribute o m apos) (e::es) [] pos) (.meth i m o' es'):=fun ρ d k h=>by
 rw [rE_meth] at h
 refine zz fun P_ k_=>?_
 obtain ⟨⟨x,kx⟩,g1,h⟩:=R.bind_ok h
 obtain ⟨⟨xs,ks⟩,g2,h⟩:=R.bind_ok h
 refine k_ ?_
 cases x with
 | obj ci fs =>
  simp only at h
  split at h
  ·rename_i hl
   obtain ⟨r,g3,h⟩:=R.bind_ok h
   simp only [R.pure_eq,R.ok.injEq,Prod.mk.injEq] at h; obtain ⟨rfl,rfl⟩:=h
   refine bj (pe_meth (pl:=pl) (ho ρ _ kx g1) c hm F hr hb .nil pass0 (ha ρ xs ks g2) hst hpl ht) fun σ H Q ⟨H0,F',S,q⟩=>⟨H0,F',S,fun v H1 fp s1 r1 _=>?_⟩
   have r1':=r1
   refine zz fun P_ k_=>?_
   obtain ⟨a,dx,f0,gs,e1,ef,ha',hd,hn,r0⟩:=r1
   refine k_ ?_
   rw [hC ci] at ha'
   refine ⟨a,dx,gs,e1,ha',fZ hn (RepF.l.mp r0) hl,H0,F',S.step s1,fun vs H2 fp2 s2 r2 _=>?_⟩
   refine ⟨D.obj ci fs::xs,fp++fp2,r,by rw [List.append_nil]; unfold RepL; exact ⟨v,vs,fp,fp2,rfl,rfl,r1'.same s2,r2⟩,g3,fun w H3 fp' s3 r3 nd fr=>q w H3 fp' ((s1.trans s2).trans s3) r3 ⟨nd,fun _ z=>(nomatch z),fun b hb=>.inl ((s1.trans s2).free (fr b hb).1),fun b hb=>(fr b hb).2⟩⟩
  ·injection h
 | _=>injection h
noncomputable def spI (cl:Nat→Addr) (c:Nat) (m:List D→R D):Sp:=fun vs H Q _=>∃ p dx ws ds fp r,vs=.ref p::ws∧H p=some (.ins (cl c) dx [])∧H dx=some (.own p)∧dx≠p∧RepL cl H ds ws fp∧(∀ b∈fp,b≠p∧b≠dx)∧m ds=.ok r ∧
 ∀ H' fp',(∀ b o,H b=some o→b≠p→b≠dx→H' b=some o)→Rep cl H' r (.ref p) fp'→fp'.Nodup→(∀ b∈fp',(b=p∨b=dx∨H b=none)∧NF H' b)→Q .non H'
theorem g_make {i ci kk:Nat} {C f:Addr} {fd:FuncData} {ps:List Str} {x:Str} (hC:cl ci=C) (Mk':Mk X.K C f) (F:FnOk X.prog X.w X.K X.mg X.base CX0 kk f fd ps (spI cl ci (M.new i))) (hr:Room (kk+1) X.A) (hg:Gl X x) (hm:X.mg x=some (.ref C)) (hb:eN X.K fd ps [])
  (hd : (x == ("__debug__" : Str)) = false) (he : starEach (e :: es) X.env = (false, eval e X.env) :: starEach es X.env) (hpl : (backTo pos (starEach es X.env)).any (·.1) = false) (ha : GA X cl M (e :: es) es') : GE X cl M (.Call (.Name x p) (e :: es) [] pos) (.make i es') := fun ρ d k h => by
 rw [rE_make] at h
 obtain ⟨⟨xs,ks⟩,g2,h⟩:=R.bind_ok h
 obtain ⟨r,g3,h⟩:=R.bind_ok h
 simp only [R.pure_eq,R.ok.injEq,Prod.mk.injEq] at h; obtain ⟨rfl,rfl⟩:=h
 refine bj (pe_make Mk' F hr hg hm hb .nil pass0 (ha ρ xs ks g2) hd he hpl) fun σ H Q ⟨H0,F',S,q⟩=>⟨H0,F',S,fun vs H1 fp s1 r1 _=>?_⟩
 intro z dz nz ndz nez
 have sn:Same H1 (upd (upd H1 dz (.own z)) z (.ins C dz [])):=fun b o e=>by
  rw [aj (bq e nz),aj (bq e ndz)]; exact e
 refine ⟨z,dz,vs,xs,fp,r,by rw [List.append_nil],by rw [hC]; exact ao,by rw [aj nez,ao],nez,r1.same sn,fun b hb=>⟨fun e=>r1.dom b hb (e ▸ nz),fun e=>r1.dom b hb (e ▸ ndz)⟩,g3,fun H' fp' kp r' nd fr=>⟨rfl, ?_⟩⟩
 have s2:Same H1 H':=fun b o e=>kp b o (sn b o e) (bq e nz) (bq e ndz)
 refine q (.ref z) H' fp' (s1.trans s2) r' ⟨nd,fun _ z=>(nomatch z),fun b hb=>.inl (s1.free ?_),fun b hb=>(fr b hb).2⟩
 rcases (fr b hb).1 with e | e | e
 ·rw [e]; exact nz
 ·rw [e]; exact ndz
 ·exact sn.free e
end
end Vi
namespace Vi
open PySem PySem.Spec PyProof.Rows L2
noncomputable def BiR (X:Cx) (cl:Nat→Addr) (f:Value) (ds:List D) (z:D):Prop:=CallR X f (fun xs H Q=>∃ fp,RepL cl H ds xs fp∧∀ v H' fp',Same H H'→Rep cl H' z v fp'→cz H H' fp'→Q v H')
section
variable {X:Cx} {cl:Nat→Addr} {M:Tab} {a b c e o:Expr} {es rest:List Expr} {pos p p2 apos cpos:Pos} {a' b' c' e' o':E} {es':List E}
theorem rep1 {H:Hp} {d:D} {xs:List V} {fp:List Addr} (r:RepL cl H [d] xs fp):∃ x f,xs=[x]∧Rep cl H d x f:=by
 obtain ⟨v,vr,f,g,e,_,r1,r2⟩:=r
 exact ⟨v,f,by rw [e,r2.1],r1⟩
theorem jd {ds:List D} {z:D} {b:Bi} (h:biD b ds=.ok z):∃ d,ds=[d]:=by
 match ds,h with
 | [d],_=>exact ⟨d,rfl⟩
theorem call_lenR : CallR X (.builtin "len") (fun xs H Q => ∃ a kvs, xs = [V.ref a] ∧ Rd H a (.dK kvs) ∧ Q (.int kvs.length) H) := by
 intro pins s σ H xs us Q I r h
 obtain ⟨a,kvs,rfl,ha,q⟩:=h
 obtain ⟨u,rfl,ru⟩:=gT r
 subst ru
 exact d_len I ha fun t s' I'=>⟨.int kvs.length,H,I',⟨t,rfl⟩,q⟩
theorem d0 {ds : List D} {z : D} (h : biD .len ds = .ok z) : BiR X cl (.builtin "len") ds z := by
 intro pins s σ H xs us Q I r hh_
 obtain ⟨fp,rl,q⟩:=hh_
 obtain ⟨d,rfl⟩:=jd h
 obtain ⟨x,f,ex,rx⟩:=rep1 rl
 cases d with
 | lst l =>
  (injection h with h; subst h)
  obtain ⟨p,vs,g,e,hs,hl⟩:=bX (K:=X.K) rx
  refine gr pins s σ H xs us Q I r ⟨p,vs,by rw [ex,e],.inl hs, ?_⟩
  rw [hl.len]
  exact q _ H [] (Same.refl H) ⟨rfl,rfl⟩ cz.nil
 | tup l =>
  (injection h with h; subst h)
  obtain ⟨p,vs,e,hs,hl⟩:=gF (K:=X.K) rx
  refine gr pins s σ H xs us Q I r ⟨p,vs,by rw [ex,e],.inr hs, ?_⟩
  rw [hl.len]
  exact q _ H [] (Same.refl H) ⟨rfl,rfl⟩ cz.nil
 | dK l =>
  (injection h with h; subst h)
  obtain ⟨p,f',kvs,e,ef,ha,hk,rm⟩:=rx
  refine call_lenR pins s σ H xs us Q I r ⟨p,kvs,by rw [ex,e],ha, ?_⟩
  have:kvs.length=l.length:=by have:=congrArg List.length hk; simpa using this.symm
  rw [this]
  exact q _ H [] (Same.refl H) ⟨rfl,rfl⟩ cz.nil
 | _=>injection h
set_option tactic.hygienic true in
theorem sum_rep {H:Hp}:∀ {l:List D} {vs:List V} {g:List Addr} {n:Int},sumD l=.ok n→RepL cl H l vs g→∃ ns:List Int,vs=ns.map V.int∧n=ns.sum:=by
 intro x_0
 induction x_0 with
 | nil =>
  intro vs g n h r
  (injection h with h; subst h); exact ⟨[],r.1,rfl⟩
 | cons d l ih_ =>
  intro vs g n h r
  obtain ⟨v,vr,f1,g1,ev,_,r1,r2⟩:=r
  cases d with
  | int i =>
   simp only [sumD] at h
   split at h
   ·rename_i m hm
    (injection h with h; subst h)
    obtain ⟨ns,e1,e2⟩:=ih_ hm r2
    exact ⟨i::ns,by rw [ev,r1.1,e1]; rfl,by rw [e2,List.sum_cons]⟩
   ·injection h
   ·injection h
  | _=>injection h
theorem ints_rep {H:Hp}:∀ {l:List D} {vs:List V} {g:List Addr} {ns:List Int},jZ l=some ns→RepL cl H l vs g→vs=ns.map V.int:=by
 intro x_0
 induction x_0 with
 | nil =>
  intro vs g n h r
  (injection h with h; subst h); exact r.1
 | cons d l ih_ =>
  intro vs g n h r
  obtain ⟨v,vr,f1,g1,ev,_,r1,r2⟩:=r
  cases d with
  | int i =>
   simp only [jZ] at h
   cases hm:jZ l with
   | none=>rw [hm] at h; injection h
   | some m =>
    rw [hm] at h
    (injection h with h; subst h)
    rw [ev,r1.1,ih_ hm r2]; rfl
  | _=>injection h
theorem bools_rep {H:Hp}:∀ {l:List D} {vs:List V} {g:List Addr} {ns:List Bool},fm l=some ns→RepL cl H l vs g→vs=ns.map V.bl:=by
 intro x_0
 induction x_0 with
 | nil =>
  intro vs g n h r
  (injection h with h; subst h); exact r.1
 | cons d l ih_ =>
  intro vs g n h r
  obtain ⟨v,vr,f1,g1,ev,_,r1,r2⟩:=r
  cases d with
  | bl i =>
   simp only [fm] at h
   cases hm:fm l with
   | none=>rw [hm] at h; injection h
   | some m =>
    rw [hm] at h
    (injection h with h; subst h)
    rw [ev,r1.1,ih_ hm r2]; rfl
  | _=>injection h
set_option tactic.hygienic true in
theorem bi_sum (hc : X.calm = true) {ds : List D} {z : D} (h : biD .sum ds = .ok z) : BiR X cl (.builtin "sum") ds z := by
 intro pins s σ H xs us Q I r hh_
 obtain ⟨fp,rl,q⟩:=hh_
 obtain ⟨d,rfl⟩:=jd h
 cases d with
 | lst l =>
  simp only [kf,biD_2,biD_3,biD_4,biD_5,biD_6,biD_7,biD_8,kb,iL,gu,jx,jw,jv,ju,jt,jr,jq,jp] at h
  split at h
  ·rename_i n hn
   (injection h with h; subst h)
   obtain ⟨x,f,ex,rx⟩:=rep1 rl
   obtain ⟨p,vs,g,e,hs,hl⟩:=bX (K:=X.K) rx
   obtain ⟨ns,e1,e2⟩:=sum_rep hn hl
   subst ex; subst e; subst e1
   obtain ⟨u,rfl,rx'⟩:=gT r
   subst rx'
   obtain ⟨its,r',pl,hz⟩:=I.list hs
   have hi:IntsAre its ns:=jh r'
   obtain ⟨ys,hx⟩:=hi.allInts.items
   have hl':s.heap.IsList p (intItems ys):=hx ▸ pl.isList
   refine sum_intListG (I.ok.hd hc) hl' fun h' tk t' hk=>?_
   have e3:ns=ys.toList.map (·.1):=by
    rw [← nums_intItems,← hx]
    exact (show numsOf its.toArray.toList=ns from hi.numsOf).symm
   have e4:preSum (numAt ys) ys.size=ns.sum:=by
    rw [preSum_eq,List.take_of_length_le (by simp),e3]
   rw [e4,← e2]
   exact ⟨.int n,H,I.kept hk,⟨t',rfl⟩,q _ H [] (Same.refl H) ⟨rfl,rfl⟩ cz.nil⟩
  ·injection h
  ·injection h
 | _=>injection h
theorem bool_at {its:List Value} {bs:List Bool} (r:Vals (bs.map V.bl) its) {i:Nat} {v:Value} (h:its[i]?=some v):∃ b,bs[i]?=some b∧v=.bool b:=by
 have hl:=r.length
 rw [List.length_map] at hl
 have hi:i < its.length:=(List.getElem?_eq_some_iff.mp h).1
 have hi':i < bs.length:=by (clear r h; omega)
 obtain ⟨u,hu,ru⟩:=r.get (i:=i) (x:=.bl bs[i]) (by rw [List.getElem?_map,List.getElem?_eq_getElem hi']; rfl)
 rw [h] at hu
 (injection hu with hu; subst hu)
 exact ⟨bs[i],List.getElem?_eq_getElem hi',ru⟩
theorem range_any' (bs:List Bool):((List.range bs.length).any fun i=>(bs[i]?).getD false)=bs.any id:=by
 rw [Bool.eq_iff_iff,List.any_eq_true,List.any_eq_true]
 constructor
 ·rintro ⟨i,hi,e⟩
  have hi':=List.mem_range.mp hi
  simp only [List.getElem?_eq_getElem hi',Option.getD_some] at e
  exact ⟨_,List.getElem_mem hi',e⟩
 ·rintro ⟨b,hb,e⟩
  obtain ⟨i,hi,rfl⟩:=List.getElem_of_mem hb
  exact ⟨i,List.mem_range.mpr hi,by simp only [List.getElem?_eq_getElem hi,Option.getD_some]; exact e⟩
theorem range_all' (bs:List Bool):((List.range bs.length).all fun i=>(bs[i]?).getD true)=bs.all id:=by
 rw [Bool.eq_iff_iff,List.all_eq_true,List.all_eq_true]
 constructor
 ·intro h b hb
  obtain ⟨i,hi,rfl⟩:=List.getElem_of_mem hb
  have:=h i (List.mem_range.mpr hi)
  simp only [List.getElem?_eq_getElem hi,Option.getD_some] at this
  exact this
 ·intro h i hi
  have hi':=List.mem_range.mp hi
  simp only [List.getElem?_eq_getElem hi',Option.getD_some]
  exact h _ (List.getElem_mem hi')
theorem kept_it {s:Shared} {h':Heap} {o:Obj} (hk:∀ b x,b∉[s.heap.objs.size]→(s.heap.push o).get? b=some x→h'.get? b=some x):∀ b x,s.heap.get? b=some x→h'.get? b=some x :=
 fun b x e=>hk b x (fun hm=>by rw [List.mem_singleton.mp hm] at e; exact Nat.lt_irrefl _ (Heap.lt_size e)) (Heap.get?_push_of_some _ e)
set_option tactic.hygienic true in
theorem bi_any (hc : X.calm = true) {ds : List D} {z : D} (h : biD .any ds = .ok z) : BiR X cl (.builtin "any") ds z := by
 intro pins s σ H xs us Q I r hh_
 obtain ⟨fp,rl,q⟩:=hh_
 obtain ⟨d,rfl⟩:=jd h
 cases d with
 | lst l =>
  simp only [kf,biD_2,biD_3,biD_4,biD_5,biD_6,biD_7,biD_8,kb,iL,gu,jx,jw,jv,ju,jt,jr,jq,jp] at h
  split at h
  ·rename_i bs hb
   (injection h with h; subst h)
   obtain ⟨x,f,ex,rx⟩:=rep1 rl
   obtain ⟨p,vs,g,e,hs,hl⟩:=bX (K:=X.K) rx
   have e1:=bools_rep hb hl
   subst ex; subst e; subst e1
   obtain ⟨u,rfl,rx'⟩:=gT r
   subst rx'
   obtain ⟨its,r',pl,hz⟩:=I.list hs
   have hlt:p < s.heap.objs.size:=by obtain ⟨_,e,_⟩:=pl.isList; exact Heap.lt_size e
   refine call_any_walk (wpAny_pyIter_list pl.isList ?_)
   refine ⟨s.heap.objs.size,[s.heap.objs.size,p],[s.heap.objs.size],its.toArray.size,_,_,fun i=>(bs[i]?).getD false,rfl,Walks.list (A:=X.A.in1) (I.ok.hd hc) _ p (Nat.ne_of_lt hlt) its.toArray,
    ⟨⟨_,Heap.get?_push_size _ rfl,rfl,rfl⟩,pl.isList.push _⟩,fun i v s' Q' E' hP hQ=>?_,fun h' tk hk=>?_⟩
   ·obtain ⟨b,e,rfl⟩:=bool_at r' (i:=i) (v:=v) (by simpa using hP)
    simp only [e,Option.getD_some] at hQ
    exact wpAny_truthy_bool hQ
   ·have e:((List.range its.toArray.size).any fun i=>(bs[i]?).getD false)=bs.any id:=by
     rw [List.size_toArray,← r'.length,List.length_map]; exact range_any' bs
    rw [e]
    exact ⟨.bl _,H,I.kept (kept_it hk),rfl,q _ H [] (Same.refl H) ⟨rfl,rfl⟩ cz.nil⟩
  ·injection h
 | _=>injection h
set_option tactic.hygienic true in
theorem bi_all (hc : X.calm = true) {ds : List D} {z : D} (h : biD .all ds = .ok z) : BiR X cl (.builtin "all") ds z := by
 intro pins s σ H xs us Q I r hh_
 obtain ⟨fp,rl,q⟩:=hh_
 obtain ⟨d,rfl⟩:=jd h
 cases d with
 | lst l =>
  simp only [kf,biD_2,biD_3,biD_4,biD_5,biD_6,biD_7,biD_8,kb,iL,gu,jx,jw,jv,ju,jt,jr,jq,jp] at h
  split at h
  ·rename_i bs hb
   (injection h with h; subst h)
   obtain ⟨x,f,ex,rx⟩:=rep1 rl
   obtain ⟨p,vs,g,e,hs,hl⟩:=bX (K:=X.K) rx
   have e1:=bools_rep hb hl
   subst ex; subst e; subst e1
   obtain ⟨u,rfl,rx'⟩:=gT r
   subst rx'
   obtain ⟨its,r',pl,hz⟩:=I.list hs
   have hlt:p < s.heap.objs.size:=by obtain ⟨_,e,_⟩:=pl.isList; exact Heap.lt_size e
   refine call_all_walk (wpAny_pyIter_list pl.isList ?_)
   refine ⟨s.heap.objs.size,[s.heap.objs.size,p],[s.heap.objs.size],its.toArray.size,_,_,fun i=>(bs[i]?).getD true,rfl,Walks.list (A:=X.A.in1) (I.ok.hd hc) _ p (Nat.ne_of_lt hlt) its.toArray,
    ⟨⟨_,Heap.get?_push_size _ rfl,rfl,rfl⟩,pl.isList.push _⟩,fun i v s' Q' E' hP hQ=>?_,fun h' tk hk=>?_⟩
   ·obtain ⟨b,e,rfl⟩:=bool_at r' (i:=i) (v:=v) (by simpa using hP)
    simp only [e,Option.getD_some] at hQ
    exact wpAny_truthy_bool hQ
   ·have e:((List.range its.toArray.size).all fun i=>(bs[i]?).getD true)=bs.all id:=by
     rw [List.size_toArray,← r'.length,List.length_map]; exact range_all' bs
    rw [e]
    exact ⟨.bl _,H,I.kept (kept_it hk),rfl,q _ H [] (Same.refl H) ⟨rfl,rfl⟩ cz.nil⟩
  ·injection h
 | _=>injection h
theorem intV_of {its:List Value}:∀ {ns:List Int},IntsAre its ns→Vals (ns.map V.int) its:=fun h=>by
 induction h with
 | nil=>exact .nil
 | cons n t _ ih=>exact .cons ⟨t,rfl⟩ ih
theorem repL_ints {H:Hp}:∀ ns:List Int,RepL cl H (ns.map D.int) (ns.map V.int) []:=by
 intro x_0
 induction x_0 with
 | nil =>
  unfold RepL; exact ⟨rfl,rfl⟩
 | cons n r ih_ =>
  rw [List.map_cons,List.map_cons]
  unfold RepL
  exact ⟨_,_,[],[],rfl,rfl,⟨rfl,rfl⟩,ih_⟩
theorem jG {ns ms:List Int} (hp:ms.Perm ns) (h:ms.Pairwise (· ≤ ·)):ms=sortI ns:=by
 have h2:(sortI ns).Pairwise (· ≤ ·):=by
  have:=List.pairwise_mergeSort (le:=fun a b:Int=>decide (a≤b)) (fun a b c h1 h2=>by simp at h1 h2 ⊢; exact Int.le_trans ‹_› ‹_›) (fun a b=>by simp; (clear hp h; omega)) ns
  exact this.imp fun h=>by simpa using h
 exact PySem.W.ksm_same (hp.trans (List.mergeSort_perm _ _).symm) h h2
theorem new_ints {pins:List (Addr × Obj)} {σ:L2.St} {H:Hp} {s s':Shared} {ns:List Int} {out:List Value} {D':Addr} {n:Nat} {Q:VK} (I:Inv X pins σ H s) (hD:s.heap.objs.size≤D') (hk:∀ b o,s.heap.get? b=some o→s'.heap.get? b=some o) (hs:s'={ s with heap:=s'.heap,toks:=s'.toks })
  (he : s'.heap.get? D' = some { cls := .type "list", data := .seq out.toArray n }) (hi : IntsAre out ns) (hz : ns.length ≤ sizeLine)
  (q:∀ v H' fp',Same H H'→Rep cl H' (.lst (ns.map D.int)) v fp'→cz H H' fp'→Q v H'):EP X pins σ Q (.ref D') s':=by
 have hn:H D'=none:=I.hok.fresh hD
 rw [hs]
 refine ⟨.ref D',upd H D' (.lst (ns.map V.int)),I.laid hk hD ⟨by simpa using hz,out,n,intV_of hi,he⟩,rfl,q _ _ [D'] (Same.new hn) ?_ (cz.one hn (ii (o:=.lst (ns.map V.int)) (by intro _ _ z; injection z)))⟩
 unfold Rep
 exact ⟨D',_,[],rfl,rfl,repL_ints ns,.inl ao⟩
set_option tactic.hygienic true in
theorem dI (hc : X.calm = true) {ds : List D} {z : D} (h : biD .sorted ds = .ok z) : BiR X cl (.builtin "sorted") ds z := by
 intro pins s σ H xs us Q I r hh_
 obtain ⟨fp,rl,q⟩:=hh_
 have hline:(64:Nat)≤sizeLine:=by decide
 obtain ⟨d,rfl⟩:=jd h
 cases d with
 | lst l =>
  simp only [kf,biD_2,biD_3,biD_4,biD_5,biD_6,biD_7,biD_8,kb,iL,gu,jx,jw,jv,ju,jt,jr,jq,jp,iR] at h
  split at h
  ·rename_i m hm
   split at hm
   ·rename_i ns hns
    split at hm
    ·rename_i h64
     (injection hm with hm; subst hm)
     (injection h with h; subst h)
     obtain ⟨x,f,ex,rx⟩:=rep1 rl
     obtain ⟨p,vs,g,e,hs,hl⟩:=bX (K:=X.K) rx
     have e1:=ints_rep hns hl
     subst ex; subst e; subst e1
     obtain ⟨u,rfl,rx'⟩:=gT r
     subst rx'
     obtain ⟨its,r',pl,hz⟩:=I.list hs
     have hi:IntsAre its ns:=jh r'
     have hlen:its.length=ns.length:=hi.length
     refine sorted_ints pl.isList hi (by (clear hc I hline hns q rx rl hs hl r r' pl hz hi; omega)) fun out ns' a1 a2 a3=>?_
     obtain ⟨n,he⟩:=sortedAll_at s.heap its out
     have en:=jG a2 a3
     subst en
     exact new_ints I (Nat.le_succ _) (fun b o e=>sortedAll_old e) rfl (out:=out.toList) (n:=n) (by simpa [seqObj] using he) a1 (by have:=a2.length_eq; (clear hc I hns q rx rl hs hl r r' pl hz hi hlen he a1 a2 a3; omega)) q
    ·injection hm
   ·injection hm
  ·injection h
 | dK l =>
  simp only [kf,biD_2,biD_3,biD_4,biD_5,biD_6,biD_7,biD_8,kb,iL,gu,jx,jw,jv,ju,jt,jr,jq,jp,iR] at h
  split at h
  ·rename_i m hm
   split at hm
   ·rename_i ns hns
    split at hm
    ·rename_i h64
     (injection hm with hm; subst hm)
     (injection h with h; subst h)
     obtain ⟨x,f,ex,rx⟩:=rep1 rl
     obtain ⟨p,f',kvs,e,ef,ha,hks,rm⟩:=rx
     subst ex; subst e
     obtain ⟨u,rfl,rx'⟩:=gT r
     subst rx'
     obtain ⟨hz,hd,ws,rel,dd⟩:=gh I.hok ha
     obtain ⟨ep,hat⟩:=dd.dictAt
     have hh:=I.ok.hd hc
     have kws:ws.map (·.1)=ns.map Sum.inl:=by
      rw [← rel.keys,← hks]
      clear q rl hks rm
      induction l generalizing ns with
      | nil=>(injection hns with hns; subst hns); rfl
      | cons kv l ih =>
       obtain ⟨k,v⟩:=kv
       rw [List.map_cons] at hns ⊢
       cases k with
       | inr _=>injection hns
       | inl i =>
        have hns:(jZ (l.map fun kv=>keyD kv.1)).map (i :: ·)=some ns:=hns
        cases hm:jZ (l.map fun kv=>keyD kv.1) with
        | none=>rw [hm] at hns; injection hns
        | some m =>
         rw [hm] at hns
         (injection hns with hns; subst hns)
         rw [List.map_cons,ih (ns:=m) hm (by have:=h64; simp at this; exact Nat.le_of_lt ‹_›)]
     have hwl:ws.length=ns.length:=by have:=congrArg List.length kws; simpa using this
     refine Calls.call_function_entry kind_sorted plain_sorted entry_sorted (args_sorted1 _) ?_
     unfold Builtin.«sorted»
     refine wpAny_bind (m := checkCount "sorted" 1 1 _) (wpAny_pure ?_)
     refine wpAny_bind (PySem.W.kdu_collect (A:=X.A.in1) (PySem.W.kdl_dict (knd:=bp X.prog X.w) (kvs:=ws) (ep:=ep) hd) hh hat (by (clear hc I hns q ef ha hks rm rl r hz hd rel dd hat hh kws; omega)) fun h' tk acc hk hacc=>?_)
     have hl:acc.toList.length=ns.length:=by rw [Array.length_toList,hacc.1,hwl]
     have hI:IntsAre acc.toList ns:=by
      have key:∀ (as:List Value) (ms:List Int) (o:Nat),as.length=ms.length→(∀ (j:Nat) (v:Value),as[j]?=some v→∃ (i:Int) (t:Tok),ms[j]?=some i∧v=Value.int i t)→IntsAre as ms:=by
       intro as
       induction as with
       | nil=>intro ms o hl _; cases ms with | nil=>exact .nil | cons _ _=>simp at hl
       | cons v as ih =>
        intro ms o hl hv
        cases ms with
        | nil=>simp at hl
        | cons i ms =>
         obtain ⟨i',t,h1,h2⟩:=hv 0 v rfl
         (injection h1 with h1; subst h1)
         subst h2
         exact .cons i t (ih ms o (by simpa using hl) fun j v h=>hv (j+1) v (by simpa using h))
      refine key acc.toList ns 0 hl fun j v hv=>?_
      obtain ⟨k,x,hx,hkey⟩:=hacc.2 j v (by rw [← Array.getElem?_toList]; exact hv)
      have hkj:(ws.map (·.1))[j]?=some k:=by rw [List.getElem?_map,hx]; rfl
      rw [kws,List.getElem?_map] at hkj
      cases hnj:ns[j]? with
      | none=>rw [hnj] at hkj; injection hkj
      | some i =>
       rw [hnj] at hkj
       (injection hkj with hkj; subst hkj)
       rcases br (show keyIs (Sum.inl i) v=true from hkey) with ⟨i',t,e1,e2⟩ | ⟨_,_,e1,_⟩
       ·(injection e1 with e1; subst e1); exact ⟨i,t,rfl,e2⟩
       ·injection e1
     refine wpAny_bind (wpAny_newList ?_ (by (clear hc I hns q ef ha hks rm rl r hz hd rel dd hat hh kws hwl hk hacc hI; omega)))
     have hoL : (h'.push (seqObj "list" acc.toList.toArray 0)).get? h'.objs.size = some (seqObj "list" acc.toList.toArray 0) := Heap.get?_push_size _ rfl
     show wpAny _ _ _ _ _ { s with heap := h'.push (seqObj "list" acc.toList.toArray 0), toks := tk }
     refine wpAny_bind (wpAny_holding (wpAny_call_entry slot_list_sort ⟨_,hoL,rfl⟩ entry_list_sort (list_sort_tree hoL hI (by (clear hc I hline hns q ef ha hks rm rl r hz hd rel dd hat hh kws hwl hk hacc hI hoL; omega)) fun out ns' a1 a2 a3=>⟨_,rfl, ?_⟩) (args_list_sort _)))
     refine wpAny_pure ⟨_,rfl, ?_⟩
     have en:=jG a2 a3
     subst en
     obtain ⟨n,he⟩:=sortedHeap_at (n:=0) (vs:=acc.toList) (out:=out) hoL
     exact new_ints (s' := { s with heap := sortedHeap (h'.push (seqObj "list" acc.toList.toArray 0)) h'.objs.size acc.toList out, toks := tk }) (s := { s with heap := h', toks := tk }) (I.kept hk) (Nat.le_refl _) (fun b o h1 => by
      have hlt:b < h'.objs.size:=Heap.lt_size h1
      show (sortedHeap _ _ _ _).get? b=_
      rw [sortedHeap_old (Nat.ne_of_lt hlt) (by rw [size_push']; exact Nat.lt_succ_of_lt hlt)]
      exact Heap.get?_push_of_some _ h1) rfl (out:=out.toList) (n:=n) (by simpa [seqObj] using he) a1 (by have:=a2.length_eq; (clear hc I hns q ef ha hks rm rl r hz hd rel dd hat hh kws hwl hk hacc hl hI hoL a1 a2 a3 he; omega)) q
    ·injection hm
   ·injection hm
  ·injection h
 | _=>injection h
end
end Vi
namespace Vi
open PySem PySem.Spec PyProof.Rows L2
section
variable {X:Cx} {cl:Nat→Addr} {M:Tab} {a b c e o:Expr} {es rest:List Expr} {pos p p2 apos cpos:Pos} {a' b' c' e' o':E} {es':List E}
theorem cp {bk : Bi} {id : String} {x : Str} (hB : ∀ ds z, biD bk ds = .ok z → BiR X cl (.builtin id) ds z) (hg : Gl X x) (hm : X.mg x = none) (hv : bootBuiltins x = some (.builtin id)) (hn : x ≠ "__name__") (hdb : (x == ("__debug__" : Str)) = false)
  (he:starEach (e::es) X.env=(false,eval e X.env)::starEach es X.env) (hpl:(backTo pos (starEach es X.env)).any (·.1)=false) (ha:GA X cl M (e::es) es'):GE X cl M (.Call (.Name x p) (e::es) [] pos) (.bi bk es'):=fun ρ d k h=>by
 rw [rE_bi] at h
 obtain ⟨⟨xs,ks⟩,g2,h⟩:=R.bind_ok h
 obtain ⟨r,g3,h⟩:=R.bind_ok h
 simp only [R.pure_eq,R.ok.injEq,Prod.mk.injEq] at h; obtain ⟨rfl,rfl⟩:=h
 exact bj (jQ (hB xs r g3) hg hm hv (ha ρ xs ks g2) hn hdb he hpl) fun σ H Q hh_=>(by obtain ⟨H0,F,S,q⟩:=hh_; exact (⟨H0,F,S,fun vs H1 fp s1 r1 _=>⟨fp,r1,fun v H' fp' s2 r2 fr=>q v H' fp' (s1.trans s2) r2 (cz.kd s1 fr)⟩⟩))
theorem g_biT {bk : Bi} {id : String} {x : Str} (hB : ∀ ds z, biD bk ds = .ok z → BiR X cl (.type id) ds z) (hg : Gl X x) (hm : X.mg x = none) (hv : bootBuiltins x = some (.type id)) (hn : x ≠ "__name__") (hdb : (x == ("__debug__" : Str)) = false)
  (he:starEach (e::es) X.env=(false,eval e X.env)::starEach es X.env) (hpl:(backTo pos (starEach es X.env)).any (·.1)=false) (ha:GA X cl M (e::es) es'):GE X cl M (.Call (.Name x p) (e::es) [] pos) (.bi bk es'):=fun ρ d k h=>by
 rw [rE_bi] at h
 obtain ⟨⟨xs,ks⟩,g2,h⟩:=R.bind_ok h
 obtain ⟨r,g3,h⟩:=R.bind_ok h
 simp only [R.pure_eq,R.ok.injEq,Prod.mk.injEq] at h; obtain ⟨rfl,rfl⟩:=h
 exact bj (pe_callTy (hB xs r g3) hg hm hv (ha ρ xs ks g2) hn hdb he hpl) fun σ H Q hh_=>(by obtain ⟨H0,F,S,q⟩:=hh_; exact (⟨H0,F,S,fun vs H1 fp s1 r1 _=>⟨fp,r1,fun v H' fp' s2 r2 fr=>q v H' fp' (s1.trans s2) r2 (cz.kd s1 fr)⟩⟩))
noncomputable def tyOfD:D→Option String
 | .non => some "NoneType"
 | .bl _ => some "bool"
 | .int _ => some "int"
 | .str _ => some "str"
 | .tup _ => some "tuple"
 | .lst _ => some "list"
 | .dK _=>none
 | .dT _=>none
 | .obj _ _=>none
theorem tyOf_rep {K:PySem.W.Frag} {H:Hp} {d:D} {x:V} {f:List Addr} {T:String} (r:Rep cl H d x f) (h:tyOfD d=some T):TyOf K H x (.type T):=by
 cases d with
 | non=>(injection h with h; subst h); rw [r.1]; exact .non
 | bl b=>(injection h with h; subst h); rw [r.1]; exact .bl b
 | int i=>(injection h with h; subst h); rw [r.1]; exact .int i
 | str i=>(injection h with h; subst h); rw [r.1]; exact .str i
 | tup l=>(injection h with h; subst h); unfold Rep at r; obtain ⟨a,vs,e,ha,_⟩:=r; rw [e]; exact .tup ha
 | lst l =>
  (injection h with h; subst h); unfold Rep at r; obtain ⟨a,vs,f',e,_,_,ha⟩:=r; rw [e]
  rcases ha with ha | ⟨ob,ha⟩
  ·exact .lst ha
  ·exact .frz ha
 | dK l=>injection h
 | dT l=>injection h
 | obj _ _=>injection h
theorem g_isi {bk:Bi} {T:String} {x y:Str} {q1:Pos} (hk:∀ d z,biD bk [d]=.ok z→∃ t T',z=.bl t∧tyOfD d=some T'∧PySem.W.kitOne X.K (.type T') (.type T)=some t)
  (hg : Gl X x) (hm : X.mg x = none) (hv : bootBuiltins x = some (.builtin "isinstance")) (hn : x ≠ "__name__") (hdb : (x == ("__debug__" : Str)) = false)
  (hg2 : Gl X y) (hm2 : X.mg y = none) (hv2 : bootBuiltins y = some (.type T)) (hn2 : y ≠ "__name__") (hdb2 : (y == ("__debug__" : Str)) = false)
  (he:starEach [a,.Name y q1] X.env=(false,eval a X.env)::starEach [.Name y q1] X.env) (he2:starEach [.Name y q1] X.env=(false,eval (.Name y q1) X.env)::starEach [] X.env) (hpl:(backTo pos (starEach [.Name y q1] X.env)).any (·.1)=false)
  (ha:GE X cl M a a'):GE X cl M (.Call (.Name x p) [a,.Name y q1] [] pos) (.bi bk [a']):=fun ρ d k h=>by
 rw [rE_bi] at h
 obtain ⟨⟨xs,ks⟩,g2,h⟩:=R.bind_ok h
 obtain ⟨r,g3,h⟩:=R.bind_ok h
 simp only [R.pure_eq,R.ok.injEq,Prod.mk.injEq] at h; obtain ⟨rfl,rfl⟩:=h
 rw [eh] at g2
 obtain ⟨⟨w,kw⟩,g4,g2⟩:=R.bind_ok g2
 simp only [h9,eh,R.ok_bind,R.pure_eq,R.ok.injEq,Prod.mk.injEq] at g2
 obtain ⟨rfl,_⟩:=g2
 obtain ⟨t,T',ez,eT,ek⟩:=hk w r g3
 subst ez
 have hc : CallR X (.builtin "isinstance") (fun xs H Q => ∃ x f, xs = [x, .ty T] ∧ Rep cl H w x f ∧ Q (.bl t) H) := by
  intro pins s σ H xs us Q I r hh_
  obtain ⟨x,f,e,rx,q⟩:=hh_
  subst e
  obtain ⟨u,v,rfl,ru,rv⟩:=Vals.two r
  subst rv
  exact isinst_ok I ru (tyOf_rep rx eT) ek fun tk=>⟨.bl t,H,I.tok tk,rfl,q⟩
 refine bj (jQ hc hg hm hv (bI (ha ρ w kw g4) (bI (pe_bltn (v:=.ty T) hg2 hm2 hv2 rfl hn2 hdb2) de he2) he) hn hdb he hpl) fun σ H Q ⟨H0,F,S,q⟩=>⟨H0,F,S,fun v H1 fp s1 r1 _=>⟨v,fp,rfl,r1, ?_⟩⟩
 exact q _ H1 [] s1 ⟨rfl,rfl⟩ (by rw [ip (z:=.bl t) rfl]; exact KOk.nil0)
theorem isi_int (K : PySem.W.Frag) : ∀ d z, biD .isInt [d] = .ok z → ∃ t T', z = .bl t ∧ tyOfD d = some T' ∧ PySem.W.kitOne K (.type T') (.type "int") = some t := fun d z h => by
 cases d with
 | int i=>(injection h with h; subst h); exact ⟨true,_,rfl,rfl,rfl⟩
 | bl i=>(injection h with h; subst h); exact ⟨true,_,rfl,rfl,rfl⟩
 | str i=>(injection h with h; subst h); exact ⟨false,_,rfl,rfl,rfl⟩
 | _=>injection h
theorem isi_bool (K : PySem.W.Frag) : ∀ d z, biD .isBool [d] = .ok z → ∃ t T', z = .bl t ∧ tyOfD d = some T' ∧ PySem.W.kitOne K (.type T') (.type "bool") = some t := fun d z h => by
 cases d with
 | int i=>(injection h with h; subst h); exact ⟨false,_,rfl,rfl,rfl⟩
 | bl i=>(injection h with h; subst h); exact ⟨true,_,rfl,rfl,rfl⟩
 | str i=>(injection h with h; subst h); exact ⟨false,_,rfl,rfl,rfl⟩
 | _=>injection h
theorem iq (K : PySem.W.Frag) : ∀ d z, biD .isTuple [d] = .ok z → ∃ t T', z = .bl t ∧ tyOfD d = some T' ∧ PySem.W.kitOne K (.type T') (.type "tuple") = some t := fun d z h => by
 cases d with
 | tup i=>(injection h with h; subst h); exact ⟨true,_,rfl,rfl,rfl⟩
 | _=>injection h
theorem isi_list (K : PySem.W.Frag) : ∀ d z, biD .isList [d] = .ok z → ∃ t T', z = .bl t ∧ tyOfD d = some T' ∧ PySem.W.kitOne K (.type T') (.type "list") = some t := fun d z h => by
 cases d with
 | lst i=>(injection h with h; subst h); exact ⟨true,_,rfl,rfl,rfl⟩
 | _=>injection h
noncomputable def GO (X:Cx) (cl:Nat→Addr) (M:Tab) (e:Option Expr) (E':E):Prop:=∀ ρ d k i,runE M E' ρ=.ok (d,k)→optI E' d=some i→PO X e (fun σ H Q=>∃ H0 F,SOK cl H0 ρ F σ H∧∀ H',Same H H'→Q i H')
theorem go_none:GO X cl M none .nil:=fun ρ d k i h hi=>by
 simp only [rE_nil,R.ok.injEq,Prod.mk.injEq] at h; obtain ⟨rfl,rfl⟩:=h
 (injection hi with hi; subst hi)
 exact fun pins s σ H Q I hh_=>(by obtain ⟨H0,F,S,q⟩:=hh_; exact (po_none pins s σ H Q I (q H (Same.refl H))))
theorem iB (h:GE X cl M e e') (hn:e' ≠ .nil):GO X cl M (some e) e':=fun ρ d k i h1 h2=>by
 have key:∃ j,d=.int j∧i=some j:=by
  unfold optI at h2
  split at h2
  ·exact absurd rfl hn
  ·(injection h2 with h2; subst h2)
   exact ⟨_,rfl,rfl⟩
  ·injection h2
 obtain ⟨j,rfl,rfl⟩:=key
 exact fun pins s σ H Q I hh_=>(by obtain ⟨H0,F,S,q⟩:=hh_; exact (po_some (h ρ _ k h1) pins s σ H Q I ⟨H0,F,S,fun v H1 fp s1 r1 _=>⟨j,r1.1,q H1 s1⟩⟩))
theorem cutAt_eq (n:Nat) (d:Nat) (i:Option Int):cutAt n d i=HT.sIx n d i:=by
 cases i with
 | none=>rfl
 | some i=>rfl
theorem RepL.dropN {H:Hp}:∀ (n:Nat) {l:List D} {vs:List V},RepL cl H l vs []→RepL cl H (l.drop n) (vs.drop n) []:=by
 intro x_0
 induction x_0 with
 | zero =>
  intro l vs h
  exact h
 | succ n ih_ =>
  intro x_1
  cases x_1 with
  | nil =>
   intro vs h
   obtain ⟨e,_⟩:=h; subst e; exact ⟨rfl,rfl⟩
  | cons d l =>
   intro vs h
   obtain ⟨v,vr,f,g,e,ef,r1,r2⟩:=h
   subst e
   have:f=[]∧g=[]:=by simpa using ef.symm
   rw [this.2] at r2
   exact ih_ r2
theorem RepL.takeN {H:Hp}:∀ (n:Nat) {l:List D} {vs:List V},RepL cl H l vs []→RepL cl H (l.take n) (vs.take n) []:=by
 intro x_0
 induction x_0 with
 | zero =>
  intro l vs h
  rw [List.take_zero,List.take_zero]; exact ⟨rfl,rfl⟩
 | succ n ih_ =>
  intro x_1
  cases x_1 with
  | nil =>
   intro vs h
   obtain ⟨e,_⟩:=h; subst e; exact ⟨rfl,rfl⟩
  | cons d l =>
   intro vs h
   obtain ⟨v,vr,f,g,e,ef,r1,r2⟩:=h
   subst e
   have:f=[]∧g=[]:=by simpa using ef.symm
   rw [this.2] at r2
   rw [this.1] at r1
   rw [List.take_succ_cons,List.take_succ_cons]
   unfold RepL
   exact ⟨v,_,[],[],rfl,rfl,r1,ih_ r2⟩
theorem g_sl {lo hi:Option Expr} {l' h':E} (ha:GE X cl M a a') (hl:GO X cl M lo l') (hh:GO X cl M hi h'):GE X cl M (.Subscript a (.Slice lo hi none p2) pos) (.sl a' l' h'):=fun ρ d k h=>by
 rw [rE_sl] at h
 obtain ⟨⟨x,kx⟩,g1,h⟩:=R.bind_ok h
 obtain ⟨⟨y,ky⟩,g2,h⟩:=R.bind_ok h
 obtain ⟨⟨z,kz⟩,g3,h⟩:=R.bind_ok h
 cases x with
 | lst l =>
  cases e1:optI l' y with
  | none=>simp only [e1] at h; injection h
  | some lo' =>
  cases e2:optI h' z with
  | none=>simp only [e1,e2] at h; injection h
  | some hi' =>
  simp only [e1,e2,slD_1] at h
  split at h
  ·rename_i him
   simp only [R.ok.injEq,Prod.mk.injEq] at h; obtain ⟨rfl,rfl⟩:=h
   refine bj (pe_slice sl_list (ha ρ _ kx g1) (hl ρ y ky lo' g2 e1) (hh ρ z kz hi' g3 e2)) fun σ H Q ⟨H0,F,S,q⟩=>⟨H0,F,S,fun v H1 fp s1 r1 _=>⟨H0,F,S.step s1,fun H2 s2=>⟨H0,F,(S.step s1).step s2,fun H3 s3=>?_⟩⟩⟩
   have r3:=(r1.same s2).same s3
   obtain ⟨p,vs,g,e,hs,hl'⟩:=bX (K:=X.K) r3
   refine ⟨p,vs,e,hs,fun q1 hq=>?_⟩
   have eg:=hl'.imm him
   subst eg
   have sn:=Same.new (o:=HO.lst (cutV vs lo' hi')) hq
   have rc:RepL cl H3 (cutD l lo' hi') (cutV vs lo' hi') []:=by
    unfold cutD cutV
    rw [cutAt_eq,cutAt_eq,← hl'.len]
    exact (hl'.dropN _).takeN _
   refine q (.ref q1) _ [q1] (((s1.trans s2).trans s3).trans sn) ?_ ((cz.one hq (ii (o:=.lst (cutV vs lo' hi')) (by intro _ _ z; injection z))).k ((s1.trans s2).trans s3))
   unfold Rep
   exact ⟨q1,_,[],rfl,rfl,rc.same sn,.inl ao⟩
  ·injection h
 | _=>injection h
end
end Vi
namespace L2
open PySem PySem.Spec PyProof.Rows
noncomputable def Itr2 (lo:Int) (n:Nat):It:=⟨fun i _=>i < n,fun i H x H'=>H'=H∧x=.int (lo+i * 2),fun i _=>n≤i⟩
theorem turn_range2 {P:Program} {w:World} {K:PySem.W.Frag} {tg:Expr} (it:Addr) (lo:Int) (n:Nat):Turn P w K tg (Itr2 lo n) [it] it (fun i h=>IsRangeIter h it (lo+(i:Nat) * 2) ((n:Int) - (i:Nat)) 2) where
 mem:=by simp
 obj:=fun i h st b hb=>by
  have e:b=it:=by simpa using hb
  subst e
  exact ⟨_,st,fun v z=>by
   have z':Data.fields _=Data.cell v:=z
   injection z'⟩
 keep:=fun i h h' st k=>k it (by simp) _ st
 item:=by
  intro X hP hw hK hc i pins s σ H E I hf st hg
  subst hP hw hK
  refine zz fun P_ k_=>?_
  obtain ⟨f0,f1,f2,f3,f4,f5⟩:=hf it (by simp)
  refine k_ ?_
  have W:=Walks.range (prog:=X.prog) (w:=X.w) (I.ok.hd hc) it lo 2 n
  refine W.item i s _ _ hg st fun v h' tk hv st' kk=>?_
  obtain ⟨t,rfl⟩:=hv
  have I1:Inv X pins σ H { s with heap:=h',toks:=tk }:=I.turned (fun b o hb e=>kk b o (by simpa using hb) e) f0 f1 f3 f4 f5
  exact ⟨_, rfl, go_of (s := { s with heap := h', toks := tk }) (n := "range_iterator") st' rfl rfl (by decide) ⟨.int (lo + i * 2), H, I1, ⟨t, rfl⟩, ⟨rfl, rfl⟩, st', fun b hb => (hf b hb).1⟩⟩
 done:=by
  intro X hP hw hK hc i pins s σ H E I hf st hg
  subst hP hw hK
  refine zz fun P_ k_=>?_
  obtain ⟨f0,f1,f2,f3,f4,f5⟩:=hf it (by simp)
  refine k_ ?_
  exact wpAny_pyNext_range_end (I.ok.hd hc) st (by have:n≤i:=hg; (clear hc I hf st hg f0 f1 f2 f3 f4 f5; omega)) fun h' eb=>⟨rfl,I.turned (t':=s.toks) (fun b o hb e=>eb b o hb e) f0 f1 f3 f4 f5⟩
 self:=fun _ _ _ _ _ st h=>wpAny_pyIter_rangeiter st h
theorem fL (a b:Int):Builtin.Range.rangeSize a b 2=if a < b then (b - a - 1) / 2+1 else 0:=by
 unfold Builtin.Range.rangeSize
 simp only [show (2:Int) > 0 by decide,if_true]
theorem small_two {a b:Int} (ha : -(2 ^ 62)≤a) (ha':a < 2 ^ 62) (hb : -(2 ^ 62)≤b) (hb':b < 2 ^ 62):Builtin.Range.small a b 2=true:=by
 unfold Builtin.Range.small
 rw [fL]
 simp only [Builtin.Range.rangeFitsLong,Bool.and_eq_true,Bool.or_eq_true,decide_eq_true_eq,beq_iff_eq,show (2:Int) > 0 by decide,if_true]
 split <;> omega
section
variable {X:Cx} {tg:Expr}
theorem range_it2 {pins:List (Addr × Obj)} {σ:St} {H:Hp} {s:Shared} {R:It→Hp→Prop} {E:Value→Shared→Prop} {lo hi:Int} {t u v:Tok} {tk:Nat} (I:Inv X pins σ H s) (h1 : -(2 ^ 62)≤lo) (h2:lo < 2 ^ 62) (h3 : -(2 ^ 62)≤hi) (h4:hi < 2 ^ 62)
  (q : R (Itr2 lo ((hi - lo + 1) / 2).toNat) H) : wpAny (model X.prog X.w) X.A (pyIter (.ref s.heap.objs.size)) (PIE X pins σ tg R) E { s with heap := s.heap.push { cls := .type "range", data := .fields #[.int lo t, .int hi u, .int 2 v] }, toks := tk } := by
 refine wpAny_pyIter_range (IsRange.new ..) (small_two h1 h2 h3 h4) ?_
 have I1 : Inv X pins σ H { s with heap := s.heap.push { cls := .type "range", data := .fields #[.int lo t, .int hi u, .int 2 v] }, toks := tk } := I.kept fun b o e => Heap.get?_push_of_some _ e
 refine ⟨(s.heap.push { cls := .type "range", data := .fields #[.int lo t, .int hi u, .int 2 v] }).objs.size, [(s.heap.push { cls := .type "range", data := .fields #[.int lo t, .int hi u, .int 2 v] }).objs.size], _, _, H, rfl,
  I1.kept (t':=tk) fun b o e=>Heap.get?_push_of_some _ e,turn_range2 _ lo ((hi - lo+1) / 2).toNat, ?_,fun b hb=>?_,q⟩
 ·have e1:lo+((0:Nat):Int) * 2=lo:=by simp
  have e2:((((hi - lo+1) / 2).toNat:Nat):Int) - ((0:Nat):Int)=Builtin.Range.rangeSize lo hi 2:=by rw [fL]; split <;> (clear I h1 h2 h3 h4 q I1 e1; omega)
  show IsRangeIter _ _ (lo+((0:Nat):Int) * 2) (((((hi - lo+1) / 2).toNat:Nat):Int) - ((0:Nat):Int)) 2
  rw [e1,e2]
  exact Heap.get?_push_size _ rfl
 ·have e : b = (s.heap.push { cls := .type "range", data := .fields #[.int lo t, .int hi u, .int 2 v] }).objs.size := by simpa using hb
  subst e
  exact I1.fpOk (Nat.le_refl _) (I1.hok.fresh (Nat.le_refl _))
section
variable {prog:Program} {w:World} {A:Around} {E:Value→Shared→Prop} {s:Shared}
end
noncomputable def iRng3 (ta:TA):TI:=fun σ H R=>ta σ H fun vs H1=>∃ i j:Int,vs=[.int i,.int j,.int 2]∧(-(2 ^ 62)≤i∧i < 2 ^ 62∧-(2 ^ 62)≤j∧j < 2 ^ 62)∧R (Itr2 i ((j - i+1) / 2).toNat) H1
theorem pi_range3 {a b c : Expr} {ta : TA} {p pos : Pos} (hg : Gl X "range") (hm : X.mg "range" = none) (ha : PA X [a, b, c] ta) (hs : starEach [a, b, c] X.env = (false, eval a X.env) :: starEach [b, c] X.env) (hs2 : (backTo pos (starEach [b, c] X.env)).any (·.1) = false) :
  PI X tg (.Call (.Name "range" p) [a, b, c] [] pos) (iRng3 ta) := by
 intro pins s σ H R I h
 refine Call_ (ld_blt I hg hm boot_range (PyProof.Rows.callWith_type1 (thn (ha pos pins s σ H _ I h) fun us s1 hh_=>?_) hs hs2))
 refine zz fun P_ k_=>?_
 obtain ⟨vs,H1,I1,r1,q1⟩:=hh_
 obtain ⟨i,j,e,⟨q1,q2,q3,q4⟩,q⟩:=q1
 refine k_ ?_
 subst e
 cases r1 with
 | cons r rr =>
  cases rr with
  | cons r' rr =>
   cases rr with
   | cons r'' rr =>
    cases rr
    refine zz fun P_ k_=>?_
    obtain ⟨t,rfl⟩:=r
    obtain ⟨t',rfl⟩:=r'
    obtain ⟨t'',rfl⟩:=r''
    refine k_ ?_
    exact call_range_3 (by decide) (range_it2 (tk:=s1.toks) I1 q1 q2 q3 q4 q) (.inl (PyProof.noPylong_small (by decide)))
end
end L2
namespace Vi
open PySem PySem.Spec PyProof.Rows L2
section
variable {X:Cx} {cl:Nat→Addr} {M:Tab} {a b c e o:Expr} {es rest:List Expr} {pos p p2 apos cpos:Pos} {a' b' c' e' o':E} {es':List E}
theorem bt {tg iter:Expr} (h:GE X cl M iter e'):GI X cl M tg iter .each [e']:=fun ρ xs k hr=>by
 rw [rI_1] at hr
 obtain ⟨⟨x,kx⟩,g1,hr⟩:=R.bind_ok hr
 simp only [h9,eh,R.ok_bind] at hr
 cases x with
 | lst l =>
  simp only [gP,gO,gN,gM,gL,R.pure_eq,R.ok.injEq,Prod.mk.injEq] at hr; obtain ⟨rfl,rfl⟩:=hr
  exact i_list (h ρ _ kx g1)
 | tup l =>
  simp only [gP,gO,gN,gM,gL,R.pure_eq,R.ok.injEq,Prod.mk.injEq] at hr; obtain ⟨rfl,rfl⟩:=hr
  exact i_tup (h ρ _ kx g1)
 | _=>injection hr
theorem j_range2 {lo:Int} {n:Nat} {B:Hp}:JOk cl (Itr2 lo n) (bw lo 2 n) B:=by
 refine ⟨fun i H' _ h=>by rw [eC] at h; exact h,fun i H' x H'' _ y h=>?_,fun i H' _ h=>by rw [eC] at h; exact h⟩
 obtain ⟨e1,e2⟩:=y
 rw [eC] at h
 subst e1
 exact ⟨Same.refl _,.int (lo+i * 2),[],gn h,⟨e2,rfl⟩,fun b hb=>nomatch hb⟩
theorem run_args {ik:Itk} {it:List E} {ρ:Env} {xs:List D} {k:Kd} (h:runI M ik it ρ=.ok (xs,k)):∃ ds ks,bY M it ρ=.ok (ds,ks)∧dU ik ds=some xs∧(ik=.range→k=.sto []):=by
 cases it with
 | nil=>injection h
 | cons a r =>
  rw [rI_1] at h
  obtain ⟨⟨x,kx⟩,g1,h⟩:=R.bind_ok h
  obtain ⟨⟨ys,ky⟩,g2,h⟩:=R.bind_ok h
  simp only at h
  split at h
  ·injection h
  ·rename_i zs hz
   simp only [R.pure_eq,R.ok.injEq,Prod.mk.injEq] at h; obtain ⟨rfl,rfl⟩:=h
   exact ⟨x::ys,ff kx ky,by rw [eh,g1]; simp [g2],hz,fun e=>by subst e; rfl⟩
theorem es_one {ρ:Env} {ds:List D} {ks:Kd} (h:bY M [a'] ρ=.ok (ds,ks)):∃ d,ds=[d]:=by
 rw [eh] at h
 obtain ⟨⟨x,kx⟩,g1,h⟩:=R.bind_ok h
 simp only [h9,eh,R.ok_bind,R.pure_eq,R.ok.injEq,Prod.mk.injEq] at h
 exact ⟨x,h.1.symm⟩
theorem es_cons {ρ:Env} {ds:List D} {ks:Kd} (h:bY M (a'::es') ρ=.ok (ds,ks)):∃ d r k,ds=d::r∧bY M es' ρ=.ok (r,k):=by
 rw [eh] at h
 refine zz fun P_ k_=>?_
 obtain ⟨⟨x,kx⟩,g1,h⟩:=R.bind_ok h
 obtain ⟨⟨ys,ky⟩,g2,h⟩:=R.bind_ok h
 refine k_ ?_
 simp only [R.pure_eq,R.ok.injEq,Prod.mk.injEq] at h
 exact ⟨x,ys,ky,h.1.symm,g2⟩
theorem gi_range3 {tg : Expr} (hg : Gl X "range") (hm : X.mg "range" = none) (hs : starEach [a, b, c] X.env = (false, eval a X.env) :: starEach [b, c] X.env) (hs2 : (backTo pos (starEach [b, c] X.env)).any (·.1) = false) (ha : GA X cl M [a, b, c] [a', b', c']) :
  GI X cl M tg (.Call (.Name "range" p) [a, b, c] [] pos) .range [a', b', c'] := fun ρ xs k hr => by
 refine zz fun P_ k_=>?_
 obtain ⟨ds,ks,h1,h2,h3⟩:=run_args hr
 refine k_ ?_
 rw [h3 rfl]
 have hp:=ha ρ ds ks h1
 refine zz fun P_ k_=>?_
 obtain ⟨d1,r1,k1,rfl,g1⟩:=es_cons h1
 obtain ⟨d2,r2,k2,rfl,g2⟩:=es_cons g1
 obtain ⟨d3,rfl⟩:=es_one g2
 refine k_ ?_
 cases d1 with
 | int i =>
  cases d2 with
  | int j =>
   cases d3 with
   | int l =>
    simp only [gP,gO,gN,gM,gL] at h2
    split at h2
    ·rename_i hb
     (injection h2 with h2; subst h2)
     refine zz fun P_ k_=>?_
     obtain ⟨b1,b2,b3,b4,rfl⟩:=hb
     refine k_ ?_
     exact pi_imp (pi_range3 hg hm hp hs hs2) fun σ H R' ⟨H0,F,S,q⟩=>⟨H0,F,S,fun vs H1 fp s1 rl q1=>by
      refine zz fun P_ k_=>?_
      obtain ⟨v1,vr1,f1,f2,e1,_,x1,rl⟩:=rl
      obtain ⟨v2,vr2,f3,f4,e2,_,x2,rl⟩:=rl
      obtain ⟨v3,vr3,f5,f6,e3,_,x3,rl⟩:=rl
      refine k_ ?_
      exact ⟨i,j,by rw [e1,x1.1,e2,x2.1,e3,x3.1,rl.1],⟨b1,b2,b3,b4⟩,q _ H1 [] s1 KOk.nil0 fun B _ _=>j_range2⟩⟩
    ·injection h2
   | _=>injection h2
  | _=>injection h2
 | _=>injection h2
theorem fj {tgE iter elt:Expr} {ifs:List Expr} {sc:Scope} {tg:List Nat} {one:Bool} {g:TG} {ik:Itk} {it:List E} (hc:X.calm=true) (Sc:eM X sc)
  (how:∀ (i:Nat) (x:Str),X.N[i]?=some x→sc.names.lookup x=some NameKind.local→i∈tg) (hs:∀ x,foldedSetIterable iter X.env x=pure x) (hi:GI X cl M tgE iter ik it) (hg:∀ X',InC X sc X'→PG X' tgE g) (hB:fo cl tg one g)
  (ht:(ifs=[]∧c'=.bl true)∨∃ c,ifs=[c]∧∀ X',InC X sc X'→GT X' cl M c c') (he:∀ X',InC X sc X'→GE X' cl M elt e'):GE X cl M (.ListComp elt [⟨tgE,iter,ifs,0⟩] sc pos) (.comp e' tg one ik it c'):=fun ρ d k h=>by
 rw [rE_comp] at h
 obtain ⟨⟨xs,kx⟩,g1,h⟩:=R.bind_ok h
 simp only at h
 split at h
 ·injection h
 ·rename_i hl
  obtain ⟨⟨ys,b⟩,g2,h⟩:=R.bind_ok h
  simp only [R.pure_eq,R.ok.injEq,Prod.mk.injEq] at h; obtain ⟨rfl,rfl⟩:=h
  refine e_comp hc Sc how (hi ρ xs kx g1) hg hB (by exact Nat.not_lt.mp ‹_›) ?_ (fun X' hX ρ d k e=>he X' hX ρ d k e) g2 hs
  rcases ht with ⟨e1,e2⟩ | ⟨c,e1,ht⟩
  ·refine .inl ⟨e1,fun ρ t ht=>?_⟩
   subst e2
   simp only [tru1,rE_bl,truD] at ht
   (injection ht with ht; subst ht); rfl
  ·refine .inr ⟨c,e1,fun X' hX ρ t h2=>?_⟩
   cases hr:runE M c' ρ with
   | ok q =>
    obtain ⟨x,kx⟩:=q
    rw [hr] at h2
    exact ht X' hX ρ x kx t hr h2
   | ex z=>rw [hr] at h2; injection h2
   | bad=>rw [hr] at h2; injection h2
end
end Vi
namespace Vi
open PySem PySem.Spec PyProof.Rows L2
section
variable {X:Cx} {cl:Nat→Addr} {M:Tab} {a b c e o:Expr} {es rest:List Expr} {pos p p2 apos cpos spos:Pos} {a' b' c' e' o':E} {es':List E} {st:Stmt} {sts sa sb:List Stmt} {s':S} {ss sa' sb':List S}
theorem ae:GSs X cl M [] []:=fun ρ=>by
 show PSs X [] (tSd cl ρ (asgs []) (aA M [] ρ))
 rw [rSs_0,asgs]; exact ss_nil
theorem aa (h1:GS X cl M st s') (h2:GSs X cl M sts ss):GSs X cl M (st::sts) (s'::ss):=fun ρ=>by
 show PSs X (st::sts) (tSd cl ρ (asgs (s'::ss)) (aA M (s'::ss) ρ))
 rw [iU,asgs]
 exact ss_cons (h1 ρ) fun ρ' _=>h2 ρ'
theorem eD:GSs X cl M sts [.raise]:=fun ρ=>by
 have e:aA M [.raise] ρ=.bad:=by simp only [iU,Out.bind,rS_raise]
 show PSs X sts (tSd cl ρ _ (aA M [.raise] ρ))
 rw [e]; exact ss_bad
theorem aT {i:Nat} {x:Str} {pos':Pos} (hN:X.N.Nodup) (hi:X.N[i]?=some x) (hx:Loc X.env.scope x) (hs:swapsWith e (some (.Name x pos')) pos.line X.env=pure false) (hf:X.fn x=true∨X.env.scope.names.lookup x=some .local) (he:GE X cl M e e') :
  GS X cl M (.Assign [.Name x pos'] e pos) (.set i e'):=fun ρ=>by
 rw [rS_set]
 cases hr:runE M e' ρ with
 | ok q =>
  obtain ⟨d,k⟩:=q
  show PS X _ (tSd cl ρ _ (ofO (bP ρ i d k)))
  cases hs2:bP ρ i d k with
  | none=>exact bH
  | some ρ'=>exact s_set (ps_set hN hi hx (he ρ d k hr) hs hf) hs2
 | ex z=>exact s_ex
 | bad=>exact bH
theorem jk {tgE iter elt:Expr} {ifs:List Expr} {sc:Scope} {tg:List Nat} {one:Bool} {g:TG} {ik:Itk} {it:List E} {i:Nat} {y:Str} {py:Pos} (hc:X.calm=true) (hN:X.N.Nodup) (hj:X.N[i]?=some y) (hy:Loc X.env.scope y) (Sc:eM X sc)
  (how:∀ (i:Nat) (x:Str),X.N[i]?=some x→sc.names.lookup x=some NameKind.local→i∈tg) (hs:∀ x,foldedSetIterable iter X.env x=pure x) (hsw:swapsWith (.ListComp elt [⟨tgE,iter,ifs,0⟩] sc pos) (some (.Name y py)) spos.line X.env=pure true)
  (hf:X.fn y=true∨X.env.scope.names.lookup y=some .local) (hi:GI X cl M tgE iter ik it) (hg:∀ X',InC X sc X'→PG X' tgE g) (hB:fo cl tg one g)
  (ht:(ifs=[]∧c'=.bl true)∨∃ c,ifs=[c]∧∀ X',InC X sc X'→GT X' cl M c c') (he:∀ X',InC X sc X'→GE X' cl M elt e'):GS X cl M (.Assign [.Name y py] (.ListComp elt [⟨tgE,iter,ifs,0⟩] sc pos) spos) (.set i (.comp e' tg one ik it c')):=fun ρ=>by
 rw [rS_set,rE_comp]
 cases g1:runI M ik it ρ with
 | ex z=>exact s_ex
 | bad=>exact bH
 | ok q =>
  obtain ⟨xs,kx⟩:=q
  simp only [R.ok_bind]
  split
  ·exact bH
  ·rename_i hl
   cases g2:ca (fq ρ tg one (fun ρ1=>tru1 (runE M c' ρ1)) (fun ρ1=>runE M e' ρ1)) xs with
   | ex z=>exact s_ex
   | bad=>exact bH
   | ok q =>
    obtain ⟨ys,bb⟩:=q
    simp only [R.ok_bind,R.pure_eq,ofR]
    cases hs2:bP ρ i (.lst ys) (if bb=true then .sto [] else .bor) with
    | none=>exact bH
    | some ρ' =>
     refine s_set (s_comp hc hN hj hy Sc how (hi ρ xs kx g1) hg hB (by exact Nat.not_lt.mp ‹_›) ?_ (fun X' hX ρ d k e=>he X' hX ρ d k e) g2 hsw hf hs) hs2
     rcases ht with ⟨e1,e2⟩ | ⟨c,e1,ht⟩
     ·refine .inl ⟨e1,fun ρ t ht=>?_⟩
      subst e2
      simp only [tru1,rE_bl,truD] at ht
      (injection ht with ht; subst ht); rfl
     ·refine .inr ⟨c,e1,fun X' hX ρ t h2=>?_⟩
      cases hr:runE M c' ρ with
      | ok q =>
       obtain ⟨x,kx⟩:=q
       rw [hr] at h2
       exact ht X' hX ρ x kx t hr h2
      | ex z=>rw [hr] at h2; injection h2
      | bad=>rw [hr] at h2; injection h2
theorem gs_unp {tgE:Expr} {is:List Nat} (hg:PG X tgE (gTup X.K is.length (gNames is))) (hs:swapsWithSole [tgE] e pos.line X.env=pure false) (hw:swappedStores [tgE] e X.env=pure none) (h1:(assignEach [tgE] X.env).map (·.2)=[assign tgE X.env]) (he:GE X cl M e e') :
  GS X cl M (.Assign [tgE] e pos) (.unp is e'):=fun ρ=>by
 rw [rS_unp]
 cases hr:runE M e' ρ with
 | ok q =>
  obtain ⟨d,k⟩:=q
  simp only [ofR]
  cases d with
  | tup ds =>
   cases k with
   | sto js =>
    simp only
    split
    ·rename_i hc
     exact s_unp (ps_asg (he ρ _ _ hr) hg hs hw h1) rfl hc
    ·exact bH
   | _=>exact bH
  | _=>exact bH
 | ex z=>exact s_ex
 | bad=>exact bH
theorem bu (he:GE X cl M e e'):GS X cl M (.Return (some e) pos) (.ret e'):=fun ρ=>by
 rw [rS_ret]
 cases hr:runE M e' ρ with
 | ok q=>obtain ⟨d,k⟩:=q; exact s_ret (he ρ d k hr)
 | ex z=>exact s_ex
 | bad=>exact bH
theorem cJ (hc:GT X cl M c c') (ha:GSs X cl M sa sa') (hb:GSs X cl M sb sb'):GS X cl M (.If c sa sb pos) (.ifs c' sa' sb'):=fun ρ=>by
 rw [rS_ifs]
 cases hr:runE M c' ρ with
 | ok q =>
  obtain ⟨d,k⟩:=q
  simp only [ofR]
  cases ht:truD d with
  | ok t=>exact s_if (hc ρ d k t hr ht) (fun _=>ha ρ) (fun _=>hb ρ)
  | ex z=>exact s_ex
  | bad=>exact bH
 | ex z=>exact s_ex
 | bad=>exact bH
theorem eE {tgE iter:Expr} {tg:List Nat} {one:Bool} {g:TG} {ik:Itk} {it:List E} (hp:PassesOwn (model X.prog X.w) X.A X.env X.xe) (hc:X.calm=true) (hs:∀ x,foldedSetIterable iter X.env x=pure x) (hi:GI X cl M tgE iter ik it) (hg:PG X tgE g) (hB:fo cl tg one g) (hb:GSs X cl M sa sa') :
  GS X cl M (.For tgE iter sa [] pos) (.for tg one ik it sa'):=fun ρ=>by
 rw [rS_for]
 cases hr:runI M ik it ρ with
 | ok q =>
  obtain ⟨xs,k⟩:=q
  simp only [ofR]
  split
  ·exact bH
  ·rename_i hn
   have hn:noBor k=true:=by simpa using hn
   exact s_for hp hc (hi ρ xs k hr) hn hg hB (fun ρ=>hb ρ) hs
 | ex z=>exact s_ex
 | bad=>exact bH
theorem gs_whl {n:Nat} (hp:PassesOwn (model X.prog X.w) X.A X.env X.xe) (hc:GT X cl M c c') (hb:GSs X cl M sa sa'):GS X cl M (.While c sa [] pos) (.whl n c' sa'):=fun ρ=>by
 rw [rS_whl]
 refine s_whl hp (fun ρ t h=>?_) fun ρ=>hb ρ
 cases hr:runE M c' ρ with
 | ok q =>
  obtain ⟨x,kx⟩:=q
  rw [hr] at h
  exact hc ρ x kx t hr h
 | ex z=>rw [hr] at h; injection h
 | bad=>rw [hr] at h; injection h
theorem gs_expr (hs:swapsWith e none pos.line X.env=pure false) (he:GE X cl M e e'):GS X cl M (.Expr e pos) (.expr e'):=fun ρ=>by
 rw [rS_expr]
 cases hr:runE M e' ρ with
 | ok q=>obtain ⟨d,k⟩:=q; exact s_expr (he ρ d k hr) hs
 | ex z=>exact s_ex
 | bad=>exact bH
set_option tactic.hygienic true in
theorem iA {i : Nat} (h : ∀ {te : TE}, PE X e te → PS X st (iQ (tBM X.K "list" ia (tVar i) (jC te tNil)))) (he : GE X cl M e e') : GS X cl M st (.app i e') := fun ρ => by
 rw [rS_app]
 cases hr:runE M e' ρ with
 | ok q =>
  obtain ⟨d,k⟩:=q
  simp only [ofR]
  split
  ·rename_i l js hl
   split
   ·rename_i hc
    exact s_app (h (he ρ d _ hr)) (fO hl) hc
   ·exact bH
  ·exact bH
 | ex z=>exact s_ex
 | bad=>exact bH
set_option tactic.hygienic true in
theorem gs_rvs {i : Nat} (h : PS X st (iQ (tBM0 X.K "list" fM (tVar i)))) : GS X cl M st (.rvs i) := fun ρ => by
 rw [rS_rvs]
 split
 ·rename_i l hl
  split
  ·rename_i hi; exact s_rvs h (fO hl) hi
  ·exact bH
 ·exact bH
set_option tactic.hygienic true in
theorem gs_put {i : Nat} {x : Str} {k v : Expr} {k' v' : E} {np tp : Pos} (hu : X.A.units + 1 < cLine) (hN : X.N[i]? = some x) (hv : Vis X.env.scope x) (hd : (x == ("__debug__" : Str)) = false) (hcd : (x == ("__classdict__" : Str)) = false) (hs : swapsWith v (some (.Subscript (.Name x np) k tp)) pos.line X.env = pure false)
  (hk:GE X cl M k k') (hvv:GE X cl M v v'):GS X cl M (.Assign [.Subscript (.Name x np) k tp] v pos) (.put i k' v'):=fun ρ=>by
 rw [rS_put]
 cases hr:runE M v' ρ with
 | ex z=>exact s_ex
 | bad=>exact bH
 | ok q =>
  obtain ⟨y,ky⟩:=q
  simp only [ofR]
  cases hr2:runE M k' ρ with
  | ex z=>exact s_ex
  | bad=>exact bH
  | ok q =>
   obtain ⟨w,kw⟩:=q
   simp only
   split
   ·rename_i d hl
    split
    ·rename_i him
     split
     ·rename_i d' hp
      refine cN (ps_dput hu (cD hN hv hd hcd) (hk ρ w kw hr2) (hvv ρ y ky hr) hs) fun D σ H ⟨H0,F,S,q⟩=>⟨H0,F,S,fun vy H1 fy s1 ry _=>?_⟩
      obtain ⟨vd,hvd,rd⟩:=S.rep i d true hl
      refine ⟨vd,hvd,H0,F,S.step s1,fun vk H2 fk s2 rk _=>?_⟩
      have S2:=(S.step s1).step s2
      have ry2:=ry.same s2
      rw [ry.imm him] at ry2
      refine zz fun P_ k_=>?_
      obtain ⟨a,f',ob,ea,dp,hf',haf,nd,nt,rn,nfz⟩:=dput_rep ((rd.same s1).same s2) (S.own i d hl).1 (fun b hb=>((((S.step s1).step s2).own i d hl).2 b hb).2) rk ry2 hp
      refine k_ ?_
      subst ea
      obtain ⟨F',S'⟩:=S2.mut (H':=upd H2 a ob) (d':=d') (fp:=a::f') (is:=[]) hl hvd (by simp) (fun _ h=>nomatch h) rn nd
       (fun b hb=>.inl (by
        rcases List.mem_cons.mp hb with z | z
        ·rw [z]; exact haf
        ·exact hf' b z))
       (fun b hb o u z=>by
        by_cases hba:b=a
        ·rw [hba,ao] at z; exact nfz o u (Option.some.inj z)
        ·rw [aj hba] at z
         rcases List.mem_cons.mp hb with w | w
         ·exact hba w
         ·exact ((S2.own i d hl).2 b (hf' b w)).2 o u z)
       (fun b hb _=>aj (fun z=>hb (by rw [z]; exact haf)))
       (fun b us z=>by
        have hba:b≠a:=fun w=>nt us (by rw [← w]; exact z)
        rw [aj hba]; exact z)
      exact ⟨a,_,rfl,dp,q σ _ F' S' fun _ _=>rfl⟩
     ·exact bH
    ·exact bH
   ·exact bH
end
end Vi
namespace Vi
open PySem PySem.Spec PyProof.Rows L2
theorem putF_new {x:Str} {y:V}:∀ {gs:List (Str × V)},gs.lookup x=none→putF x y gs=gs++[(x,y)]:=by
 intro x_0
 induction x_0 with
 | nil =>
  intro _
  exact rfl
 | cons p_0 r ih_ =>
  obtain ⟨g,v⟩:=p_0
  intro h
  rw [List.lookup_cons] at h
  cases hx:x == g with
  | true=>rw [hx] at h; injection h
  | false =>
   rw [hx] at h
   have hne:¬ g=x:=fun e=>by rw [e] at hx; simp at hx
   show (if g=x then _ else _)=_
   rw [if_neg hne,ih_ h]
   rfl
section
variable {X:Cx} {cl:Nat→Addr} {M:Tab} {a b c e o:Expr} {pos p p2:Pos} {e':E}
set_option tactic.hygienic true in
theorem j4 {x self : Str} {np tp : Pos} (hN : X.N[0]? = some self) (hv : Vis X.env.scope self) (hd : (self == ("__debug__" : Str)) = false) (hcd : (self == ("__classdict__" : Str)) = false) (hc : ∀ c, Cls X.K (cl c) ∧ d4 X.K (cl c) x)
  (hs:swapsWith e (some (.Attribute (.Name self np) x tp)) pos.line X.env=pure false) (he:GE X cl M e e'):GS X cl M (.Assign [.Attribute (.Name self np) x tp] e pos) (.fset x e'):=fun ρ=>by
 rw [rS_fset]
 cases hr:runE M e' ρ with
 | ex z=>exact s_ex
 | bad=>exact bH
 | ok q =>
  obtain ⟨d,k⟩:=q
  simp only [ofR]
  split
  ·rename_i ci fs js hl
   have hl:=ownO_some hl
   split
   ·rename_i hcond
    obtain ⟨hlen,hlk,h0⟩:=hcond
    refine cN (ps_fld (cD hN hv hd hcd) (he ρ d _ hr) hs) fun D σ H ⟨H0,F,S,q⟩=>⟨H0,F,S,fun y H1 g s1 r1 hh_=>?_⟩
    refine zz fun P_ k_=>?_
    obtain ⟨n1,o1,m1,z1⟩:=hh_
    obtain ⟨vd,hvd,rd⟩:=S.rep 0 _ _ hl
    have rd1:=rd.same s1
    obtain ⟨a,dx,f,gs,ea,eF,ha,hdx,hn,r⟩:=rd1
    refine k_ ?_
    subst ea
    have S1:=S.step s1
    have nodF:(a::dx::f).Nodup:=eF ▸ (S.own 0 _ hl).1
    have hgl:gs.lookup x=none:=fZ hn (RepF.l.mp r) hlk
    have hglen:gs.length=fs.length:=by have:=congrArg List.length hn; simpa using this.symm
    have offg:∀ b∈F 0,b∉g:=fun b hb hg=>by
     rcases m1 b hg with z | ⟨w,hw,z⟩
     ·exact S.dom hl b hb z
     ·obtain ⟨dl,el⟩:=o1 w hw
      exact S.dis 0 w _ dl true (fun q=>h0 (q ▸ hw)) hl el b hb z
    have aF:a∈F 0:=by rw [eF]; exact List.mem_cons_self
    have dF:dx∈F 0:=by rw [eF]; exact List.mem_cons_of_mem _ List.mem_cons_self
    have hda:dx≠a:=fun z=>(List.nodup_cons.mp nodF).1 (by rw [z]; exact List.mem_cons_self)
    have naf:a∉f:=fun z=>(List.nodup_cons.mp nodF).1 (List.mem_cons_of_mem _ z)
    have ndf:dx∉f:=(List.nodup_cons.mp (List.nodup_cons.mp nodF).2).1
    have nag:a∉g:=offg a aF
    have ndg:dx∉g:=offg dx dF
    have ne:∀ b∈f++g,b≠a:=fun b hb z=>by rw [z] at hb; exact (List.mem_append.mp hb).elim naf nag
    have nt:∀ us,H1 a≠some (.tup us):=fun us z=>by rw [ha] at z; (injection z with z; injection z)
    have kp:Keep (f++g) H1 (upd H1 a (.ins (cl ci) dx (gs++[(x,y)]))):=⟨fun b hb=>aj (ne b hb),fun b us z=>by
     have hba:b≠a:=fun w=>nt us (by rw [← w]; exact z)
     rw [aj hba]; exact z⟩
    have rn:Rep cl (upd H1 a (.ins (cl ci) dx (gs++[(x,y)]))) (.obj ci (fs++[(x,d)])) (.ref a) (a::dx::(f++g)):=by
     unfold Rep
     refine ⟨a,dx,f++g,gs++[(x,y)],rfl,rfl,ao,by rw [aj hda]; exact hdx,by rw [List.map_append,List.map_append,hn]; rfl,RepF.l.mpr ?_⟩
     rw [List.map_append,List.map_append]
     exact (RepL.snoc (RepF.l.mp r) r1).keep kp
    obtain ⟨F',S'⟩:=S.mut (H':=upd H1 a (.ins (cl ci) dx (gs++[(x,y)]))) (d':=.obj ci (fs++[(x,d)])) (fp:=a::dx::(f++g)) (is:=js) hl hvd h0 o1 rn
     (List.nodup_cons.mpr ⟨fun z=>by
       rcases List.mem_cons.mp z with z | z
       ·exact hda z.symm
       ·exact ne a z rfl,List.nodup_cons.mpr ⟨fun z=>(List.mem_append.mp z).elim ndf ndg,List.nodup_append.mpr ⟨(List.nodup_cons.mp (List.nodup_cons.mp nodF).2).2,n1,fun u hu w hw e=>by
        subst e; exact offg u (by rw [eF]; exact List.mem_cons_of_mem _ (List.mem_cons_of_mem _ hu)) hw⟩⟩⟩)
     (fun b hb=>by
      rcases List.mem_cons.mp hb with z | z
      ·rw [z]; exact .inl aF
      ·rcases List.mem_cons.mp z with z | z
       ·rw [z]; exact .inl dF
       ·rcases List.mem_append.mp z with z | z
        ·exact .inl (by rw [eF]; exact List.mem_cons_of_mem _ (List.mem_cons_of_mem _ z))
        ·exact .inr (m1 b z))
     (fun b hb ob u z=>by
      by_cases hba:b=a
      ·rw [hba,ao] at z; (injection z with z; injection z)
      ·rw [aj hba] at z
       rcases List.mem_cons.mp hb with w | w
       ·exact hba w
       ·rcases List.mem_cons.mp w with w | w
        ·rw [w,hdx] at z; (injection z with z; injection z)
        ·rcases List.mem_append.mp w with w | w
         ·have hbF:b∈F 0:=by rw [eF]; exact List.mem_cons_of_mem _ (List.mem_cons_of_mem _ w)
          exact (((S.own 0 _ hl).2 b hbF).2.same s1 (S.dom hl b hbF)) ob u z
         ·exact z1 b w ob u z)
     (fun b hb hdm=>by
      rw [aj (fun z=>hb (by rw [z]; exact aF))]
      cases qb:H b with
      | none=>exact absurd qb hdm
      | some ob=>exact s1 b ob qb)
     (fun b us z=>by
      have z1:=s1 b _ z
      have hba:b≠a:=fun w=>nt us (by rw [← w]; exact z1)
      rw [aj hba]; exact z1)
    refine ⟨.ref a,hvd,a,cl ci,dx,gs,rfl,ha,(hc ci).1,(hc ci).2,by (clear hN hv hd hcd hc hs he hr hlk h0 S q s1 r1 n1 o1 m1 z1 eF ha hdx hn r hvd rd S1 nodF hgl offg aF dF hda naf ndf nag ndg ne nt kp rn S'; omega), ?_⟩
    rw [putF_new hgl]
    exact q σ _ F' S' fun _ _=>rfl
   ·exact bH
  ·exact bH
end
section
variable {P:Program} {w:World} {K:PySem.W.Frag} {mg:Str→Option Value} {base:Heap} {cl:Nat→Addr}
theorem start_sok2 {H:Hp} {ds:List D} {vs:List V} {fp:List Addr} {N:List Str} {n:Nat} (r:RepL cl H ds vs fp) (hn:N.length=n) (hl:ds.length≤n) :
  ∃ F,SOK cl H (ds.map (fun d=>some (d,false))++List.replicate (n - ds.length) none) F (L2.dJ N vs) H∧∀ i d,ds[i]?=some d→∀ a∈F i,a∈fp:=by
 have key:∀ i:Nat,∃ f:List Addr,∀ d,ds[i]?=some d→∃ v,vs[i]?=some v∧Rep cl H d v f∧∀ a∈f,a∈fp:=fun i=>by
  cases e:ds[i]? with
  | none=>exact ⟨[],fun d h=>nomatch h⟩
  | some d =>
   obtain ⟨v,f,h1,h2,h3⟩:=r.get e
   exact ⟨f,fun d' h=>by (injection h with h; subst h); exact ⟨v,h1,h2,h3⟩⟩
 refine ⟨fun i=>Classical.choose (key i), ?_,fun i d e=>(Classical.choose_spec (key i) d e).choose_spec.2.2⟩
 have look:∀ {j:Nat} {d:D} {o:Bool},(ds.map (fun d=>some (d,false))++List.replicate (n - ds.length) none)[j]?=some (some (d,o))→o=false∧ds[j]?=some d:=fun {j d o} h=>by
  by_cases hj:j < ds.length
  ·rw [List.getElem?_append_left (by simpa using hj),List.getElem?_map] at h
   cases e:ds[j]? with
   | none=>rw [e] at h; injection h
   | some x=>rw [e] at h; cases h; exact ⟨rfl,rfl⟩
  ·rw [List.getElem?_append_right (by simpa using hj),List.getElem?_replicate] at h
   split at h <;> (first | injection h; done | injection h with h; injection h; done)
 refine ⟨Same.refl _, ?_,fun j d o h=>?_,fun j d h=>?_,fun i j d e o _ h=>?_,fun j d h a ha=>?_⟩
 ·unfold L2.dJ
  simp only [List.length_append,List.length_map,List.length_replicate]
  rw [r.len,hn]
 ·obtain ⟨_,e⟩:=look h
  obtain ⟨v,h1,h2,_⟩:=Classical.choose_spec (key j) d e
  refine ⟨v, ?_,h2⟩
  unfold L2.dJ
  have hj:j < vs.length:=(List.getElem?_eq_some_iff.mp h1).1
  rw [List.getElem?_append_left (by simpa using hj),List.getElem?_map,h1]
  rfl
 ·cases (look h).1
 ·cases (look h).1
 ·obtain ⟨_,e⟩:=look h
  obtain ⟨v,h1,h2,_⟩:=Classical.choose_spec (key j) d e
  exact h2.dom a ha
theorem km {ds:List D} {n i:Nat} {d:D} {o:Bool} (h:(ds.map (fun d=>some (d,false))++List.replicate n none)[i]?=some (some (d,o))):o=false∧i < ds.length:=by
 by_cases hj:i < ds.length
 ·rw [List.getElem?_append_left (by rw [List.length_map]; exact hj),List.getElem?_map,List.getElem?_eq_getElem hj] at h
  injection h with h; injection h with h; injection h with _ h
  exact ⟨h.symm,hj⟩
 ·rw [List.getElem?_append_right (by rw [List.length_map]; exact Nat.not_lt.mp hj),List.getElem?_replicate] at h
  split at h
  ·injection h with h; injection h
  ·injection h
noncomputable def offN (H:Hp) (p dx:Addr):Hp:=fun b=>if b=p∨b=dx then none else H b
theorem off_eq {H:Hp} {p dx b:Addr} (h1:b≠p) (h2:b≠dx):offN H p dx b=H b:=if_neg fun z=>z.elim h1 h2
theorem off_same {H:Hp} {p dx:Addr}:Same (offN H p dx) H:=fun b o z=>by
 unfold offN at z
 split at z
 ·injection z
 ·exact z
theorem init_sok {H:Hp} {p dx:Addr} {ci n:Nat} {ds:List D} {fp:List Addr} {F:Nat→List Addr} {σ:L2.St} (hp:H p=some (.ins (cl ci) dx [])) (hdx:H dx=some (.own p)) (hne:dx≠p) (hoff:∀ b∈fp,b≠p∧b≠dx)
  (S:SOK cl H (ds.map (fun d=>some (d,false))++List.replicate n none) F σ H) (hF:∀ i d,ds[i]?=some d→∀ a∈F i,a∈fp) :
  SOK cl (offN H p dx) (some (.obj ci [],true)::(ds.map (fun d=>some (d,false))++List.replicate n none)) (fun i=>match i with | 0=>[p,dx] | i+1=>F i) (some (.ref p)::σ) H:=by
 have out:∀ {i:Nat} {d:D} {o:Bool},(ds.map (fun d=>some (d,false))++List.replicate n none)[i]?=some (some (d,o))→∀ b∈F i,b≠p∧b≠dx:=fun h b hb=>hoff b (hF _ _ (List.getElem?_eq_getElem (km h).2) b hb)
 refine ⟨off_same,congrArg Nat.succ S.len,fun i d o h=>?_,fun i d h=>?_,fun i j d e o hij h h'=>?_,fun i d h b hb=>?_⟩
 ·cases i with
  | zero =>
   injection h with h; injection h with h; injection h with h
   subst h
   refine ⟨.ref p,rfl, ?_⟩
   unfold Rep
   exact ⟨p,dx,[],[],rfl,rfl,hp,hdx,rfl,by unfold RepF; exact ⟨rfl,rfl⟩⟩
  | succ i=>exact S.rep i d o h
 ·cases i with
  | zero =>
   refine ⟨List.nodup_cons.mpr ⟨fun z=>hne (List.mem_singleton.mp z).symm,List.nodup_cons.mpr ⟨List.not_mem_nil,List.nodup_nil⟩⟩,fun b hb=>?_⟩
   rcases List.mem_cons.mp hb with z | z
   ·rw [z]; exact ⟨if_pos (.inl rfl),fun o u q=>by rw [hp] at q; injection q with q; injection q⟩
   ·rw [List.mem_singleton.mp z]; exact ⟨if_pos (.inr rfl),fun o u q=>by rw [hdx] at q; injection q with q; injection q⟩
  | succ i=>exact Bool.noConfusion (km h).1
 ·cases i with
  | zero =>
   cases j with
   | zero=>exact absurd rfl hij
   | succ j=>exact fun b hb hF=>(List.mem_cons.mp hb).elim (out h' b hF).1 fun z=>(out h' b hF).2 (List.mem_singleton.mp z)
  | succ i=>exact Bool.noConfusion (km h).1
 ·cases i with
  | zero=>injection h with h; injection h with h; injection h with _ h; injection h
  | succ i=>exact fun z=>S.old i d h b hb ((off_eq (out h b hb).1 (out h b hb).2).symm.trans z)
theorem init_inv {fn:Fn} {M:Tab} {ci:Nat} {ds:List D} {r:D} (e:fn.init M ci ds=.ok r):(ds.length+1=fn.par∧fn.par≤fn.slots) ∧
  ∃ ρ,aA M fn.body (some (.obj ci [],true)::(ds.map (fun d=>some (d,false))++List.replicate (fn.slots - fn.par) none))=.nx ρ∧ρ[(0:Nat)]?=some (some (r,true)):=by
 unfold Fn.init at e
 by_cases hc:ds.length+1=fn.par∧fn.par≤fn.slots
 ·rw [if_pos hc] at e
  refine ⟨hc, ?_⟩
  cases hd:aA M fn.body (some (.obj ci [],true)::(ds.map (fun d=>some (d,false))++List.replicate (fn.slots - fn.par) none)) with
  | nx ρ =>
   rw [hd] at e
   refine ⟨ρ,rfl, ?_⟩
   cases h0:ρ[(0:Nat)]? with
   | none=>simp only [h0] at e; injection e
   | some y =>
    cases y with
    | none=>simp only [h0] at e; injection e
    | some y =>
     obtain ⟨d,o⟩:=y
     cases o with
     | false=>simp only [h0] at e; injection e
     | true=>simp only [h0] at e; injection e with e; rw [e]
  | _=>rw [hd] at e; injection e
 ·rw [if_neg hc] at e; injection e
theorem init_ok {x qual:Str} {st:Stmt} {f:Addr} {fd:FuncData} {N ps:List Str} {kk ci:Nat} {M:Tab} {fn:Fn} (Fu:Fun K x qual st f fd) (Sc:aJ N ps (ab st)) (hps:ps.length=fn.par) (hN:N.length=fn.slots)
  (hb:∀ (cdv:Value) (A:Around) (outer:List PySem.Env) (s:Shared) (H:Hp) (E:XK),Room kk (A.deeper (envOfC qual (ab st) s.heap.objs.size f cdv)) →
   ∀ ρ,PSs (cxOf CX0 P w K mg base N qual (ab st) f cdv A outer s H E).nox (af st) (tSd cl ρ (asgs fn.body) (aA M fn.body ρ))) (h00:0∉asgs fn.body) :
  FnOk P w K mg base CX0 (kk+1) f fd ps (spI cl ci (fn.init M ci)):=by
 refine Fu.ok Sc (fun vs H Q E h=>?_) fun cdv A outer s H vs Q E hr h=>zw fun P_ k_=>?_
 ·obtain ⟨p,dx,ws,ds,fp,r,ev,_,_,_,rl,_,e,_⟩:=h
  rw [ev,List.length_cons,rl.len,(init_inv e).1.1,hps]
 ·obtain ⟨p,dx,ws,ds,fp,r,ev,hp,hdx,hne,rl,hoff,e,cont⟩:=h
  obtain ⟨hc,ρ',hd,hl⟩:=init_inv e
  subst ev
  obtain ⟨F,S,hF'⟩:=start_sok2 (N:=N.tail) (n:=fn.slots - 1) rl (by rw [List.length_tail,hN]) (Nat.le_sub_of_add_le (Nat.le_trans (Nat.le_of_eq hc.1) hc.2))
  rw [show fn.slots - 1 - ds.length=fn.slots - fn.par by rw [Nat.sub_sub,Nat.add_comm,hc.1]] at S
  have est:L2.dJ N (.ref p::ws)=some (.ref p)::L2.dJ N.tail ws:=by
   cases N with
   | nil =>
    have h0:=Nat.le_trans (Nat.le_of_eq hc.1) hc.2
    rw [← hN] at h0
    exact absurd h0 (Nat.not_succ_le_zero _)
   | cons n0 N'=>unfold L2.dJ; simp
  have S0:=init_sok hp hdx hne hoff S hF'
  rw [← est] at S0
  refine k_ ⟨_,hb cdv A outer s H E hr _,offN H p dx,_,S0, ?_⟩
  rw [hd]
  intro σ' H' F'' S' hfr
  obtain ⟨v,h1,r1⟩:=S'.rep 0 _ _ hl
  have hv:v=.ref p:=by
   have h2:=(hfr 0 h00).symm.trans h1
   rw [est] at h2
   injection h2 with h2; injection h2 with h2
   exact h2.symm
  subst hv
  refine cont H' (F'' 0) (fun b o z h1 h2=>S'.same b o ((off_eq h1 h2).trans z)) r1 (S'.own 0 _ hl).1 fun b hb=>⟨?_,((S'.own 0 _ hl).2 b hb).2⟩
  by_cases h1:b=p
  ·exact .inl h1
  ·by_cases h2:b=dx
   ·exact .inr (.inl h2)
   ·exact .inr (.inr ((off_eq h1 h2).symm.trans ((S'.own 0 _ hl).2 b hb).1))
end
end Vi
namespace PySem
open Sem (wp)
namespace VD
theorem list_nokeys : typeLookup (.type "list") "keys" = pure none := by rw [typeLookup_type, builtinLookup_eq_fast]; kernel_rfl
set_option maxRecDepth 100000 in
theorem keys_list {prog:Program} {w:World} {A:Around} {E:Value→Shared→Prop} {s:Shared} {a:Addr} {o:Obj} {xs:Array Value} {k:Nat} {Q:Option Value→Shared→Prop}
  (hx : s.heap.get? a = some o) (hc : o.cls = .type "list") (hdat : o.data = .seq xs k) (hd : o.dict = none) (hA : A.handled = none)
  (h:∀ h' tk,(∀ b o,s.heap.get? b=some o→h'.get? b=some o)→Q none { s with heap:=h',toks:=tk }) :
  wpAny (model prog w) A (getAttr? (.ref a) "keys") Q E s := by
 obtain ⟨c,dct,dat,sl⟩:=o
 simp only at hc hdat hd
 subst hc hdat hd
 obtain ⟨hp,g,d,tk,os⟩:=s
 have hT : ∀ tk', (⟨hp, g, d, tk', os⟩ : Shared).TypeIs (.ref a) "list" := fun _ => ⟨_, hx, rfl⟩
 have f1:=sub_AttributeError
 have f3:=F.slot_list_getattribute.lookup
 have f4:=F.slot_list_getattribute.bind (.ref a)
 have f5:=am_list_getattr_none
 unfold getAttr? getAttrBy? getAttrBy
 repeat (any_goals (first | assumption | exact hT _ | ((with_reducible show wpAny _ _ (call (Value.builtin "list.__getattribute__") _ _) _ _ _); refine call_meets F.slot_list_getattribute (hT _) am_entry_list_getattribute (F.args_list_getattribute_2 _ _) (meets_getattribute_miss_list a xs k sl "keys" _ list_nokeys (by decide +kernel) (by size_fits)) ⟨hx, hA, fun h' tk' e hx' => ?_⟩) | wp_step))
 obtain ⟨t',u',he⟩:=hx'.there
 show wpAny _ _ (getattributeRaised _ _ _ _ _ _ _) _ _ _
 unfold getattributeRaised
 repeat (any_goals (first | assumption | wp_step))
 exact h _ _ hx'.of.keeps
theorem jn : entryFor table "dict.update.loop" = some Builtin.«dict.update.loop» := entryFor_of_tree (by kernel_rfl)
theorem plain_loop : plainId "dict.update.loop" = true := by decide +kernel
noncomputable def PairAt {prog:Program} {w:World} {K:Type} [DecidableEq K] (knd:KeyKind prog w K) (h:Heap) (u:Value) (p:K × Value):Prop:=∃ t kv,u=.ref t∧h.IsTuple t #[kv,p.2]∧knd.is p.1 kv=true
section
variable {prog:Program} {w:World} {K:Type} [DecidableEq K] {knd:KeyKind prog w K} {A:Around} {R:Result→Shared→Prop} {src it d:Addr} {h0:Heap} {its:List Value} {ps:List (K × Value)}
theorem loop_ok (hh:A.handled=none) (hsd:src≠d) (hsi:src≠it) (hid:it≠d) (hL:h0.IsList src its.toArray) (hlen:its.length=ps.length) (hp:∀ (i:Nat) u p,its[i]?=some u→ps[i]?=some p→PairAt knd h0 u p) (hnd:∀ (i:Nat) t,its[i]?=some (.ref t)→t≠d∧t≠it) (hbig:ps.length≤sizeLine) :
  ∀ (n i:Nat) (kvs:List (K × Value)) (s:Shared),its.length - i=n→i≤its.length→kvs.length≤i→(∀ b o,b≠d→b≠it→h0.get? b=some o→s.heap.get? b=some o)→s.heap.IsListIter it src i→s.heap.DictOf knd d kvs →
   (∀ h' tk,(∀ b o,b≠d→b≠it→s.heap.get? b=some o→h'.get? b=some o)→h'.DictOf knd d (merged kvs (ps.drop i))→R (.ok (.ret .none)) { s with heap:=h',toks:=tk }) →
   codeAny (model prog w) A (.builtin "dict.update.loop" ⟨[.ref d, .ref it, .int i 0, .none], []⟩) R s := by
 intro n
 induction n with
 | zero =>
  intro i kvs s hn hi hkl hk hit hd hR
  have hin:i=its.length:=by (clear hh hsd hsi hid hL hlen hp hnd hbig hkl hk hit hd hR; omega)
  have hls:s.heap.IsList src its.toArray:=by obtain ⟨o,ho,r⟩:=hL; exact ⟨o,hk _ _ hsd hsi ho,r⟩
  refine codeAny_builtin jn ?_
  rw [Around.under_plainId plain_loop _]
  show wpAny _ A.in1 (pyNext (.ref it) >>= _) _ _ s
  refine wpAny_bind (wpAny_pyNext_list_end (A:=A.in1) hh hit hls (by simp [hin]) fun h' eb=>?_)
  show wpAny _ _ (Builtin.Dict.addKeywords d [] >>= _) _ _ _
  refine wpAny_bind (wpAny_pure (wpAny_pure ?_))
  refine hR h' _ (fun b o hb hbi e=>eb b o hbi e) ?_
  rw [List.drop_of_length_le (by (clear hh hsd hsi hid hL hp hnd hbig hi hkl hk hit hd hR hin hls eb; omega))]
  exact hd.extBut eb (Ne.symm hid)
 | succ n ih =>
  intro i kvs s hn hi hkl hk hit hd hR
  have hlt:i < its.length:=by (clear hh hsd hsi hid hL hlen hp hnd hbig ih hi hkl hk hit hd hR; omega)
  have hls:s.heap.IsList src its.toArray:=by obtain ⟨o,ho,r⟩:=hL; exact ⟨o,hk _ _ hsd hsi ho,r⟩
  obtain ⟨t,kv,eu,ht,hkey⟩:=hp i its[i] ps[i] (List.getElem?_eq_getElem hlt) (List.getElem?_eq_getElem (by (clear hh hsd hsi hid hL hp hnd hbig ih hi hkl hk hit hd hR hlt hls; omega)))
  obtain ⟨ntd,nti⟩:=hnd i t (by rw [List.getElem?_eq_getElem hlt,eu])
  refine codeAny_builtin jn ?_
  rw [Around.under_plainId plain_loop _]
  show wpAny _ A.in1 (pyNext (.ref it) >>= _) _ _ s
  refine wpAny_bind (wpAny_pyNext_list_item (A:=A.in1) hit hls (x:=its[i]) (by simp [hlt]) fun h1 hit1 sb=>?_)
  rw [eu]
  have ht1:h1.IsTuple t #[kv,ps[i].2]:=by
   obtain ⟨o,ho,r⟩:=ht
   exact ⟨o,(sb.2 t nti).trans (hk _ _ ntd nti ho),r⟩
  have hd1:h1.DictOf knd d kvs:=hd.sameBut sb (Ne.symm hid)
  obtain ⟨o,ho,hc,m,hdat⟩:=id ht1
  have hT : ({ s with heap := h1 } : Shared).TypeIs (.ref t) "tuple" := ⟨o, ho, hc⟩
  refine wpAny_bind (wpAny_holding (wpAny_bind (wpAny_tryCatch ?_)))
  unfold Builtin.Dict.pairItems
  refine wpAny_bind (wpAny_typeOf hT ?_)
  show wpAny _ _ (if (Value.type "tuple" == Value.type "list" || Value.type "tuple" == Value.type "tuple") = true then _ else _) _ _ _
  rw [if_pos (by decide)]
  refine wpAny_bind (wpAny_seqItems ho hdat (wpAny_pure ?_))
  show wpAny _ _ (holding [kv,ps[i].2] (dictSet d kv ps[i].2)) _ _ _
  refine wpAny_holding (wpAny_dictSet_pairs (s:={ s with heap:=h1 }) hkey hd1 (fun h2 hd2 sb2=>?_) (by (clear hh hsd hsi hid hL hp hnd ih hi hk hit hd hR hlt hls eu ht hkey ntd nti hit1 sb ht1 hd1 ho hc hdat hT; omega)))
  refine wpAny_pure ⟨plainId_quiet plain_loop _, ?_⟩
  have e : (Code.builtin "dict.update.loop" ⟨[.ref d, .ref it, rawInt ((i : Int) + 1), .none], []⟩) = Code.builtin "dict.update.loop" ⟨[.ref d, .ref it, .int ((i + 1 : Nat) : Int) 0, .none], []⟩ := by
   rfl
  show codeAny _ _ (Code.builtin "dict.update.loop" ⟨[.ref d, .ref it, rawInt ((i : Int) + 1), .none], []⟩) _ _
  rw [e]
  have hl2:(stored kvs ps[i].1 ps[i].2).length≤i+1:=by
   unfold stored
   split
   ·rw [List.length_map]; exact Nat.le_succ_of_le ‹_›
   ·rw [List.length_append,List.length_singleton]; exact Nat.lt_succ_of_le ‹_›
  refine ih (i+1) (stored kvs ps[i].1 ps[i].2) _ (by (clear hh hsd hsi hid hL hlen hp hnd hbig ih hi hkl hk hit hd hR hlt hls eu ht hkey ntd nti hit1 sb ht1 hd1 ho hc hdat hT hd2 sb2 e hl2; omega)) (by assumption) hl2 (fun b o hb hbi e=>(sb2.2 b hb).trans ((sb.2 b hbi).trans (hk b o hb hbi e))) ?_ hd2 fun h' tk hk' hd'=>?_
  ·obtain ⟨oi,hoi,r⟩:=hit1
   exact ⟨oi,(sb2.2 it hid).trans hoi,r⟩
  ·refine hR h' tk (fun b o hb hbi e=>hk' b o hb hbi ((sb2.2 b hb).trans ((sb.2 b hbi).trans e))) ?_
   have ed:ps.drop i=ps[i]::ps.drop (i+1):=List.drop_eq_getElem_cons (by (clear hh hsd hsi hid hL hp hnd hbig ih hi hkl hk hit hd hR hlt hls eu ht hkey ntd nti hit1 sb ht1 hd1 ho hc hdat hT hd2 sb2 e hl2 hk' hd'; omega))
   rw [ed]
   exact hd'
end
end VD
end PySem
namespace Vi
open PySem PySem.Spec PyProof.Rows L2
section
variable {X:Cx} {cl:Nat→Addr} {pins:List (Addr × Obj)} {σ:L2.St} {H:Hp} {s:Shared}
theorem pairsD_cons {d:D} {l:List D} {ps:List (Key × D)} (h:dc (d::l)=some ps):∃ kd vd k ps',d=.tup [kd,vd]∧dt kd=some k∧dc l=some ps'∧ps=(k,vd)::ps':=by
 cases d with
 | tup q =>
  cases q with
  | nil=>injection h
  | cons kd q =>
   cases q with
   | nil=>injection h
   | cons vd q =>
    cases q with
    | cons _ _=>injection h
    | nil =>
     have h:(match dt kd,dc l with | some k,some ps=>some ((k,vd)::ps) | _,_=>none)=some ps:=h
     cases hk:dt kd with
     | none=>rw [hk] at h; injection h
     | some k =>
      rw [hk] at h
      cases hp:dc l with
      | none=>rw [hp] at h; injection h
      | some ps'=>rw [hp] at h; injection h with h; exact ⟨kd,vd,k,ps',rfl,hk,rfl,h.symm⟩
 | _=>injection h
theorem tup2 {H:Hp} {a b:D} {v:V} {f:List Addr} (r:Rep cl H (.tup [a,b]) v f):∃ t w1 w2 fa fb,v=.ref t∧H t=some (.tup [w1,w2])∧Rep cl H a w1 fa∧Rep cl H b w2 fb:=by
 obtain ⟨t,ws,et,ht,rl⟩:=r
 obtain ⟨w1,wr1,fa,fb,e1,_,x1,rl⟩:=rl
 obtain ⟨w2,wr2,fc,fd,e2,_,x2,rl⟩:=rl
 rw [e1,e2,rl.1] at ht
 exact ⟨t,w1,w2,fa,fc,et,ht,x1,x2⟩
theorem pairs_heap (I:Inv X pins σ H s):∀ {l:List D} {vs:List V} {g:List Addr} {its:List Value} {ps:List (Key × D)},dc l=some ps→immL (ps.map (·.2))=true→RepL cl H l vs g→Vals vs its →
  ∃ (kvs:List (Key × V)) (rs:List (Key × Value)),ps.map (·.1)=kvs.map (·.1)∧RepL cl H (ps.map (·.2)) (kvs.map (·.2)) []∧KV kvs rs∧its.length=rs.length∧(∀ (i:Nat) u p,its[i]?=some u→rs[i]?=some p→VD.PairAt (bp X.prog X.w) s.heap u p)∧∀ (i:Nat) t,its[i]?=some (.ref t)→t < s.heap.objs.size:=by
 intro x_0
 induction x_0 with
 | nil =>
  intro vs g its ps h hi r rv
  (injection h with h; subst h)
  obtain ⟨e,_⟩:=r
  subst e
  cases rv
  exact ⟨[],[],rfl,⟨rfl,rfl⟩,.nil,rfl,fun i u p h=>by simp at h,fun i t h=>by simp at h⟩
 | cons d l ih_ =>
  intro vs g its ps h hi r rv
  refine zw fun P_ k_=>?_
  obtain ⟨v,vr,f1,g1,ev,ef,r1,r2⟩:=r
  obtain ⟨kd,vd,k,ps',ed,hk,hps,ep⟩:=pairsD_cons h
  subst ev; subst ed; subst ep
  cases rv with
  | @cons _ u _ ir ru rr =>
  have hi':vd.imm=true∧immL (ps'.map (·.2))=true:=by simpa [immL] using hi
  obtain ⟨kvs,rs,h1,h2,h3,h4,h5,h6⟩:=ih_ hps hi'.2 r2 rr
  obtain ⟨t,w1,w2,fa,fb,et,ht,x1,x2⟩:=tup2 r1
  subst et
  subst ru
  have ek:=jY hk x1
  subst ek
  have fx:=x2.imm hi'.1
  subst fx
  obtain ⟨_,us,hus,htup⟩:=(show ce X.prog X.w H s.heap t (.tup [kV k,w2]) from I.hok t _ ht)
  obtain ⟨u1,u2,eus,ru1,ru2⟩:=Vals.two hus
  subst eus
  refine k_ ⟨(k,w2)::kvs,(k,u2)::rs,by rw [List.map_cons,List.map_cons,h1], ?_,.cons ⟨rfl,ru2⟩ h3,congrArg Nat.succ h4,fun i u p hu hp=>?_,fun i t' ht'=>?_⟩
  ·rw [List.map_cons,List.map_cons]
   unfold RepL
   exact ⟨w2,_,[],[],rfl,rfl,x2,h2⟩
  ·cases i with
   | zero =>
    (injection hu with hu; subst hu)
    (injection hp with hp; subst hp)
    exact ⟨t,u1,rfl,htup,kV_is ru1⟩
   | succ i=>exact h5 i u p hu hp
  ·cases i with
   | zero=>injection ht' with ht'; injection ht' with ht'; subst ht'; obtain ⟨o,ho,_⟩:=htup; exact Heap.lt_size ho
   | succ i=>exact h6 i t' ht'
theorem merge_rep {H':Hp}:∀ {ps:List (Key × D)} {kvs:List (Key × V)} {l:List (Key × D)} {ws:List (Key × V)},ps.map (·.1)=kvs.map (·.1)→RepL cl H' (ps.map (·.2)) (kvs.map (·.2)) []→l.map (·.1)=ws.map (·.1)→RepL cl H' (l.map (·.2)) (ws.map (·.2)) [] →
  (im l ps).map (·.1)=(fh ws kvs).map (·.1)∧RepL cl H' ((im l ps).map (·.2)) ((fh ws kvs).map (·.2)) []:=by
 intro x_0
 induction x_0 with
 | nil =>
  intro x_1
  cases x_1 with
  | nil =>
   intro l ws _ _ h3 h4
   exact ⟨h3,h4⟩
  | cons _ _ =>
   intro _ _ e _ _ _
   simp at e
 | cons p_0 ps ih_ =>
  obtain ⟨k1,d⟩:=p_0
  intro x_1
  cases x_1 with
  | nil =>
   intro _ _ e _ _ _
   simp at e
  | cons p_1 kvs =>
   obtain ⟨k2,v⟩:=p_1
   intro l ws e r h3 h4
   rw [List.map_cons,List.map_cons] at e r
   injection e with e1 e2
   have e1:k1=k2:=e1
   subst e1
   refine zz fun P_ k_=>?_
   obtain ⟨v',vr,f1,g1,ev,ef,r1,r2⟩:=r
   refine k_ ?_
   injection ev with ev1 ev2
   subst ev1; subst ev2
   have:f1=[]∧g1=[]:=by simpa using ef.symm
   rw [this.1] at r1
   rw [this.2] at r2
   refine zz fun P_ k_=>?_
   obtain ⟨h5,f',h6,h7⟩:=put_rep (k:=k1) h3 h4 r1
   refine k_ ?_
   have:f'=[]:=List.sublist_nil.mp h6
   subst this
   have z:=ih_ e2 r2 h5 h7
   exact z
set_option tactic.hygienic true in
theorem bi_dict (hc : X.calm = true) {ds : List D} {z : D} (h : biD .dict ds = .ok z) : BiR X cl (.type "dict") ds z := by
 intro pins s σ H xs us Q I r hh_
 refine zz fun P_ k_=>?_
 obtain ⟨fp,rl,q⟩:=hh_
 obtain ⟨d,rfl⟩:=jd h
 refine k_ ?_
 cases d with
 | lst l =>
  simp only [kf,biD_2,biD_3,biD_4,biD_5,biD_6,biD_7,biD_8,kb,iL,gu,jx,jw,jv,ju,jt,jr,jq,jp] at h
  split at h
  ·rename_i ps hps
   split at h
   ·rename_i hcond
    (injection h with h; subst h)
    refine zz fun P_ k_=>?_
    obtain ⟨x,f,ex,rx⟩:=rep1 rl
    obtain ⟨p,vs,g,e,hs,hl⟩:=bX (K:=X.K) rx
    refine k_ ?_
    subst ex; subst e
    obtain ⟨u,rfl,rx'⟩:=gT r
    subst rx'
    refine zz fun P_ k_=>?_
    obtain ⟨its,r',pl,hz⟩:=I.list hs
    obtain ⟨kvs,rs,p1,p2,p3,p4,p5,p6⟩:=pairs_heap I hps hcond.1 hl r'
    refine k_ ?_
    have hh:=I.ok.hd hc
    have hrl:rs.length=ps.length:=by rw [← p3.length]; have:=congrArg List.length p1; simpa using this.symm
    have hbig:rs.length≤sizeLine:=by rw [hrl,sizeLine_eq]; have:=hcond.2; exact Nat.le_trans ‹_› (by decide)
    have hp0:p < s.heap.objs.size:=by obtain ⟨_,e,_⟩:=pl.isList; exact Heap.lt_size e
    refine callType_codes (Q₁ := fun obj s₁ => obj = .ref s.heap.objs.size ∧ s₁ = { s with heap := s.heap.push { cls := .type "dict", data := .dict #[] } }) F.kt_called_dict (F.kt_typeCall_dict_1 _) F.entry_dict_init (kt_code_dict_new _ ⟨rfl, rfl⟩) ?_
    rintro obj s₁ ⟨rfl,rfl⟩
    have hnew : (s.heap.push { cls := .type "dict", data := .dict #[] }).DictOf (bp X.prog X.w) s.heap.objs.size [] := Heap.DictOf.new s.heap
    have hls : (s.heap.push { cls := .type "dict", data := .dict #[] }).IsList p its.toArray := pl.isList.push _
    refine ⟨hnew.typeIs,F.args_dict_init_2 _ _, ?_⟩
    unfold Builtin.«dict.__init__»
    refine wpAny_bind ?_
    unfold Builtin.Dict.selfAndRest
    refine wpAny_bind (wpAny_notOrdered_dict hnew.typeIs ?_)
    show wpAny _ _ (pure (s.heap.objs.size,[Value.ref p])) _ _ _
    refine wpAny_pure ?_
    show wpAny _ _ (Builtin.Dict.updateFrom "dict.__init__" s.heap.objs.size (.ref p) [] .none) _ _ _
    unfold Builtin.Dict.updateFrom
    refine wpAny_bind (wpAny_typeOf hls.typeIs ?_)
    rw [if_pos (by decide)]
    refine zz fun P_ k_=>?_
    obtain ⟨ol,nl,hol,hcl,hdict,hdat⟩:=id pl
    refine k_ ?_
    refine wpAny_bind (VD.keys_list (A:=X.A.in1.in1) (Heap.get?_push_of_some _ hol) hcl hdat hdict hh fun h1 tk1 k1=>?_)
    rw [if_pos (show (none:Option Value).isNone=true from rfl)]
    refine wpAny_bind (wpAny_rule ?_)
    have hl1:h1.IsList p its.toArray:=by obtain ⟨o,ho,r⟩:=hls; exact ⟨o,k1 _ _ ho,r⟩
    have hd1:h1.DictOf (bp X.prog X.w) s.heap.objs.size []:=by obtain ⟨o,es,ep,ho,r⟩:=hnew; exact ⟨o,es,ep,k1 _ _ ho,r⟩
    have hsz:s.heap.objs.size < h1.objs.size:=by obtain ⟨o,es,ep,ho,r⟩:=hd1; exact Heap.lt_size ho
    refine wpAny_bind (wpAny_pyIter_list (s:={ s with heap:=h1,toks:=tk1 }) hl1 ?_)
    refine wpAny_pure ⟨plainId_quiet VD.plain_loop _, ?_⟩
    refine VD.loop_ok (A:=X.A.in1) (knd:=bp X.prog X.w) (src:=p) (it:=h1.objs.size) (d:=s.heap.objs.size) (h0:=s.heap) (its:=its) (ps:=rs) hh (Nat.ne_of_lt hp0) (Nat.ne_of_lt (Nat.lt_trans hp0 hsz)) (Nat.ne_of_gt hsz) pl.isList p4 p5
     (fun i t ht=>⟨Nat.ne_of_lt (p6 i t ht),Nat.ne_of_lt (Nat.lt_trans (p6 i t ht) hsz)⟩) hbig its.length 0 [] _ (by rfl) (Nat.zero_le _) (Nat.le_refl _) (fun b o hb hbi e=>Heap.get?_push_of_some _ (k1 b o (Heap.get?_push_of_some _ e))) ⟨_,Heap.get?_push_size _ rfl,rfl,rfl⟩ (hd1.push _) fun h' tk hk' hd'=>?_
    refine ⟨rfl,.ref s.heap.objs.size,upd H s.heap.objs.size (.dK (fh [] kvs)), ?_,rfl, ?_⟩
    ·have hzl:(fh [] kvs).length≤sizeLine:=by
      have h1:=jW kvs []
      have h2:=p3.length
      rw [List.length_nil] at h1
      (clear hc I hps hcond q hs hl rx rl r r' pl hz p1 p2 p3 p4 p5 p6 hh hrl hp0 hnew hls hol hcl hdict hdat k1 hl1 hd1 hsz hk' hd'; omega)
     refine I.laid (h':=h') (t':=tk) (a:=s.heap.objs.size) (fun b o e=>hk' b o (Nat.ne_of_lt (Heap.lt_size e)) (Nat.ne_of_lt (Nat.lt_trans (Heap.lt_size e) hsz)) (Heap.get?_push_of_some _ (k1 b o (Heap.get?_push_of_some _ e)))) (Nat.le_refl _) ?_
     exact dk_new hzl (beq_eq_false_iff_ne.mpr (Ne.symm (Nat.ne_of_lt I.big))) (KV.merge p3 .nil) (by simpa using hd')
    ·have hn:H s.heap.objs.size=none:=I.fresh
     have sn:=Same.new (o:=HO.dK (fh [] kvs)) hn
     obtain ⟨m1,m2⟩:=merge_rep (cl:=cl) (H':=H) (l:=[]) (ws:=[]) p1 p2 rfl ⟨rfl,rfl⟩
     refine q (.ref s.heap.objs.size) _ [s.heap.objs.size] sn ?_ (cz.one hn (ii (o:=.dK (fh [] kvs)) (by intro _ _ z; injection z)))
     unfold Rep
     exact ⟨s.heap.objs.size,[],fh [] kvs,rfl,rfl,.inl ao,m1,RepM.l.mpr (m2.same sn)⟩
   ·injection h
  ·injection h
 | _=>injection h
end
end Vi
namespace Vi
open PySem PySem.Spec PyProof.Rows L2
noncomputable def compB (names:List (Str × NameKind)) (ko:Str→Option NameKind):Bool:=names.all fun y=>match y.2 with
 | .cell=>false
 | .local=>names.lookup y.1 == some .local
 | .free=>names.lookup y.1 == some .free && (ko y.1 == some .cell || ko y.1 == some .free)
 | _=>true
theorem bF {X:Cx} {sc:Scope} (hk:sc.kind=.function) (h:compB sc.names X.env.kindOf=true):eM X sc:=by
 unfold compB at h
 rw [List.all_eq_true] at h
 refine ⟨hk,fun y hy e=>?_,fun y hy e=>?_,fun y hy e=>?_⟩
 ·have:=h y hy; rw [e] at this; injection this
 ·have:=h y hy; rw [e] at this; exact eq_of_beq this
 ·have:=h y hy
  rw [e] at this
  have this:(sc.names.lookup y.1 == some .free && (X.env.kindOf y.1 == some .cell || X.env.kindOf y.1 == some .free))=true:=this
  rw [Bool.and_eq_true,Bool.or_eq_true] at this
  exact ⟨eq_of_beq this.1,this.2.imp eq_of_beq eq_of_beq⟩
noncomputable def howB (names:List (Str × NameKind)) (tg:List Nat):List Str→Nat→Bool
 | [],_=>true
 | x::r,i=>(!(names.lookup x == some NameKind.local) || tg.contains i) && howB names tg r (i+1)
theorem how_at {names:List (Str × NameKind)} {tg:List Nat}:∀ {N:List Str} {k i:Nat} {x:Str},howB names tg N k=true→N[i]?=some x→names.lookup x=some NameKind.local→k+i∈tg:=by
 intro x_0
 induction x_0 with
 | nil =>
  intro _ _ _ _ h _
  simp at h
 | cons y r ih_ =>
  intro k x_2
  cases x_2 with
  | zero =>
   intro x h e l
   have e:y=x:=by simpa using e
   subst e
   have h:((!(names.lookup y == some NameKind.local) || tg.contains k) && howB names tg r (k+1))=true:=h
   rw [Bool.and_eq_true,l] at h
   simpa using h.1
  | succ i =>
   intro x h e l
   have h:((!(names.lookup y == some NameKind.local) || tg.contains k) && howB names tg r (k+1))=true:=h
   rw [Bool.and_eq_true] at h
   have:=ih_ h.2 (by simpa using e) l
   rwa [show k+1+i=k+(i+1) by exact Nat.add_right_comm _ _ _] at this
theorem dX {X:Cx} {sc:Scope} {tg:List Nat} (h:howB sc.names tg X.N 0=true):∀ (i:Nat) (x:Str),X.N[i]?=some x→sc.names.lookup x=some NameKind.local→i∈tg:=fun i x e l=>by
 have:=how_at h e l
 rwa [Nat.zero_add] at this
structure Lnk (P:Program) (w:World) (K:PySem.W.Frag) (mg:Str→Option Value) (base:Heap) (cl:Nat→Addr) (x:Str) (lev:Nat) (ps:List Str) (m:List D→R D):Prop where
 ex:∃ f fd,FnOk P w K mg base CX0 lev f fd ps (spP cl m)∧mg x=some (.ref f)∧PySem.W.keepIn K (.ref f)=true∧eN K fd ps []
section
variable {X:Cx} {cl:Nat→Addr} {M:Tab} {a b c e o:Expr} {es rest:List Expr} {pos p p2 apos cpos:Pos} {a' b' c' e' o':E} {es':List E}
theorem aY {i lev kk:Nat} {ps:List Str} {x:Str} (L:Lnk X.prog X.w X.K X.mg X.base cl x lev ps (M.fn i)) (hr:Room kk X.A) (hl:lev≤kk) (hg:Gl X x)
  (hd : (x == ("__debug__" : Str)) = false) (he : starEach (e :: es) X.env = (false, eval e X.env) :: starEach es X.env) (hpl : (backTo pos (starEach es X.env)).any (·.1) = false) (ha : GA X cl M (e :: es) es') : GE X cl M (.Call (.Name x p) (e :: es) [] pos) (.call i es') := by
 obtain ⟨f,fd,F,hm,hk,hb⟩:=L.ex
 exact g_call F (hr.mono hl) hg hm hk hb hd he hpl ha
structure LnkM (P:Program) (w:World) (K:PySem.W.Frag) (mg:Str→Option Value) (base:Heap) (cl:Nat→Addr) (C:Addr) (x:Str) (lev:Nat) (ps:List Str) (m:List D→R D):Prop where
 ex:∃ f fd,FnOk P w K mg base CX0 lev f fd ps (spP cl m)∧Meth K C x f∧eN K fd ps []
theorem g_methL {i lev kk:Nat} {C:Addr} {ps:List Str} {m:Str} {pl:Sem Bool} (L:LnkM X.prog X.w X.K X.mg X.base cl C m lev ps (M.fn i)) (hC:∀ c,cl c=C) (c:Cls X.K C) (hr:Room kk X.A) (hl:lev≤kk)
  (hst:starEach (e::es) X.env=(false,eval e X.env)::starEach es X.env) (hpl:(backTo pos (starEach es X.env)).any (·.1)=false)
  (ht:eval (.Call (.Attribute o m apos) (e::es) [] pos) X.env=(do
   let ov ← eval o X.env
   standAt apos.atName
   let (f,first) ← holding [ov] (getMethod ov m pl)
   callWith pos f first (backTo pos (starEach (e::es) X.env)) (backToKw pos (keywordEach [] X.env))))
  (ho:GE X cl M o o') (ha:GA X cl M (e::es) es'):GE X cl M (.Call (.Attribute o m apos) (e::es) [] pos) (.meth i m o' es'):=by
 obtain ⟨f,fd,F,hm,hb⟩:=L.ex
 exact g_meth (pl:=pl) hC c hm F (hr.mono hl) hb hst hpl ht ho ha
structure LnkI (P:Program) (w:World) (K:PySem.W.Frag) (mg:Str→Option Value) (base:Heap) (cl:Nat→Addr) (C:Addr) (x:Str) (lev:Nat) (ps:List Str) (ci:Nat) (m:List D→R D):Prop where
 ex:∃ f fd,FnOk P w K mg base CX0 lev f fd ps (spI cl ci m)∧Mk K C f∧mg x=some (.ref C)∧eN K fd ps []
theorem g_makeL {i lev kk ci:Nat} {C:Addr} {ps:List Str} {x:Str} (L:LnkI X.prog X.w X.K X.mg X.base cl C x lev ps ci (M.new i)) (hC:∀ c,cl c=C) (hr:Room kk X.A) (hl:lev+1≤kk) (hg:Gl X x)
  (hd : (x == ("__debug__" : Str)) = false) (he : starEach (e :: es) X.env = (false, eval e X.env) :: starEach es X.env) (hpl : (backTo pos (starEach es X.env)).any (·.1) = false) (ha : GA X cl M (e :: es) es') : GE X cl M (.Call (.Name x p) (e :: es) [] pos) (.make i es') := by
 obtain ⟨f,fd,F,hm,hx,hb⟩:=L.ex
 exact g_make (hC ci) hm F (hr.mono hl) hg hx hb hd he hpl ha
theorem g_cmpE {o:Cp} (hu:X.A.units+8 < cLine) (hm:behindInMarks (cpOf o) b=false) (ha:GE X cl M a a') (hb:GE X cl M b b'):GE X cl M (.Compare a [cpOf o] [b] pos) (.cmp o a' b'):=(g_cmp hu hm ha hb).1
theorem bm {o:Cp} (hu:X.A.units+8 < cLine) (hm:behindInMarks (cpOf o) b=false) (ha:GE X cl M a a') (hb:GE X cl M b b'):GT X cl M (.Compare a [cpOf o] [b] pos) (.cmp o a' b'):=(g_cmp hu hm ha hb).2
theorem hu8 {kk:Nat} {A:Around} (hr:Room kk A):A.units+8 < cLine:=by have:=hr.units; (clear hr; omega)
end
end Vi
namespace L2
open PySem PySem.Spec PyProof.Rows
section
variable {X:Cx} {pins:List (Addr × Obj)} {σ:St} {H:Hp} {s:Shared}
theorem Inv.turnedNew {t':Nat} {ch:List Addr} {p:Addr} {o:HO} {h':Heap} (I:Inv X pins σ H s) (hch:∀ b∈ch,FpOk X pins H b) (k:∀ b o,b∉ch→s.heap.get? b=some o→h'.get? b=some o) (hp:s.heap.objs.size≤p)
  (new:ce X.prog X.w (upd H p o) h' p o):Inv X pins σ (upd H p o) { s with heap:=h',toks:=t' }:=by
 have hn:H p=none:=I.hok.fresh hp
 have nit:∀ b u,H b=some u→b∉ch:=fun b u e z=>by rw [(hch b z).1] at e; injection e
 have neP:∀ b u,H b=some u→b≠p:=fun b u e=>bq e hn
 have L:X.env.locals∉ch:=fun z=>(hch _ z).2.1 rfl
 refine I.step (g':=s.gens) (d':=s.drawn) (ch:=ch) (fun b hb=>⟨(hch b hb).2.2.2.1,(hch b hb).2.1,(hch b hb).2.2.2.2.1,(hch b hb).2.2.2.2.2⟩) (fun b o _ _ hc e _=>k b o hc e) (fun b o _ _ hc e _=>⟨o.slots,k b o hc e⟩)
  (fun b o _ e n=>by rw [aj (Nat.ne_of_lt (Nat.lt_of_lt_of_le (Heap.lt_size e) hp))]; exact n)
  (fun b o hc e=>⟨o,k b o hc e⟩) (fun b _ e=>by rw [aj (neP b _ e)]; exact e) (fun b _ _ e=>by rw [aj (neP b _ e)]; exact e) (fun b ps e=>⟨#[],by rw [aj (neP b _ e),e]; simp⟩) (fun m hm=>?_) (fun b u e=>?_) I.bare
 ·obtain ⟨o,es,ep,ho,r⟩:=hm
  exact ⟨o,es,ep,k _ o L ho,r⟩
 ·by_cases hb:b=p
  ·subst hb; rw [ao] at e; (injection e with e; subst e); exact new
  ·rw [aj hb] at e
   refine (I.hok b u e).stay (fun c v hc q=>k c v ?_ q) (fun c q=>by rw [aj (neP c _ q)]; exact q) fun c _ q=>by rw [aj (neP c _ q)]; exact q
   rcases hc with rfl | hc
   ·exact nit c u e
   ·exact nit c _ hc
end
end L2
namespace Vi
open PySem PySem.Spec PyProof.Rows L2
section
variable {X:Cx} {cl:Nat→Addr} {M:Tab} {a b c e o:Expr} {es rest:List Expr} {pos p p2 apos cpos:Pos} {a' b' c' e' o':E} {es':List E}
end
end Vi
namespace L2
open PySem PySem.Spec PyProof.Rows
section
open PySem.AutoSeq1 (wpAny_loadPart')
end
section
variable {X:Cx}
end
end L2
namespace Vi
open PySem PySem.Spec PyProof.Rows L2
section
variable {X:Cx} {cl:Nat→Addr} {M:Tab} {a b c e o:Expr} {es rest:List Expr} {pos p p2 apos cpos spos:Pos} {a' b' c' e' o':E} {es':List E} {st:Stmt}
theorem RepL.split {H:Hp}:∀ {l m:List D} {vs:List V} {f:List Addr},RepL cl H (l++m) vs f→∃ v1 v2 f1 f2,vs=v1++v2∧f=f1++f2∧RepL cl H l v1 f1∧RepL cl H m v2 f2:=by
 intro x_0
 induction x_0 with
 | nil =>
  intro m vs f h
  exact ⟨[],vs,[],f,rfl,rfl,⟨rfl,rfl⟩,h⟩
 | cons d l ih_ =>
  intro m vs f h
  rw [List.cons_append] at h
  refine zz fun P_ k_=>?_
  obtain ⟨v,vr,g1,g2,e,ef,r1,r2⟩:=h
  obtain ⟨v1,v2,f1,f2,e1,e2,h1,h2⟩:=ih_ r2
  refine k_ ?_
  refine ⟨v::v1,v2,g1++f1,f2,by rw [e,e1]; rfl,by rw [ef,e2,List.append_assoc], ?_,h2⟩
  unfold RepL
  exact ⟨v,v1,g1,f1,rfl,rfl,r1,h1⟩
set_option tactic.hygienic true in
theorem flats_rep {H:Hp}:∀ {L:List D} {ls:List (List D)} {vs:List V} {f:List Addr},fe L=some ls→RepL cl H L vs f→vs=f.map V.ref∧f.length=ls.length∧∀ (k:Nat) (p:Addr) (l:List D),f[k]?=some p→ls[k]?=some l→immL l=true∧∃ ws,(H p=some (.lst ws)∨∃ o,H p=some (.frz o (.lst ws)))∧RepL cl H l ws []:=by
 intro x_0
 induction x_0 with
 | nil =>
  intro ls vs f h r
  (injection h with h; subst h)
  obtain ⟨e1,e2⟩:=r
  subst e1; subst e2
  exact ⟨rfl,rfl,fun k p l h=>by simp at h⟩
 | cons d L ih_ =>
  intro ls vs f h r
  refine zz fun P_ k_=>?_
  obtain ⟨v,vr,g1,g2,e,ef,r1,r2⟩:=r
  refine k_ ?_
  cases d with
  | lst l =>
   simp only [fe] at h
   split at h
   ·rename_i ms hm
    split at h
    ·rename_i him
     (injection h with h; subst h)
     refine zz fun P_ k_=>?_
     obtain ⟨h1,h2,h3⟩:=ih_ hm r2
     obtain ⟨p,ws,g,ev,eg,rl,hp⟩:=r1
     refine k_ ?_
     have e0:=rl.imm him
     subst e0; subst ev; subst eg; subst ef; subst e
     refine ⟨by rw [h1]; rfl,by simp [h2],fun k q m hk hm'=>?_⟩
     cases k with
     | zero =>
      (injection hk with hk; subst hk); (injection hm' with hm'; subst hm')
      exact ⟨him,ws,hp,rl⟩
     | succ k=>exact h3 k q m hk hm'
    ·injection h
   ·injection h
  | _=>injection h
theorem repL_of {H':Hp} {g:List D→List D}:∀ {ls:List (List D)} {f:List Addr},f.length=ls.length→(∀ (k:Nat) (p:Addr) (l:List D),f[k]?=some p→ls[k]?=some l→∃ ws,H' p=some (.lst ws)∧RepL cl H' (g l) ws [])→RepL cl H' (ls.map fun l=>.lst (g l)) (f.map V.ref) f:=by
 intro x_0
 induction x_0 with
 | nil =>
  intro x_1
  cases x_1 with
  | nil =>
   intro _ _
   exact ⟨rfl,rfl⟩
  | cons _ _ =>
   intro h _
   simp at h
 | cons l ls ih_ =>
  intro x_1
  cases x_1 with
  | nil =>
   intro h _
   simp at h
  | cons p f =>
   intro h hh
   obtain ⟨ws,h1,h2⟩:=hh 0 p l rfl rfl
   have rest:=ih_ (by simpa using h) fun k q m h1 h2=>hh (k+1) q m h1 h2
   rw [List.map_cons,List.map_cons]
   unfold RepL
   refine ⟨.ref p,f.map V.ref,[p],f,rfl,rfl, ?_,rest⟩
   unfold Rep
   exact ⟨p,ws,[],rfl,rfl,h2,.inl h1⟩
inductive EI (f:List Addr) (t:Nat) (σ:L2.St) (H:Hp) (gV:List V→List V) (n:Nat) (σ':L2.St) (H':Hp):Prop
 | mk (hlσ:σ'.length=σ.length) (fr:∀ j,j≠t→σ'[j]?=σ[j]?) (off:∀ b,b∉f→H' b=H b)
  (later:∀ (k:Nat) (p:Addr),f[k]?=some p→n≤k→H' p=H p) (earlier:∀ (k:Nat) (p:Addr) (ws:List V),f[k]?=some p→k < n→H p=some (.lst ws)→H' p=some (.lst (gV ws)))
end
end Vi
namespace L2
open PySem PySem.Spec PyProof.Rows
section
variable {X:Cx} {pins:List (Addr × Obj)} {σ:St} {H:Hp} {s:Shared} {a:Addr} {o:Obj} {kvs:List (Key × V)}
end
end L2
namespace Vi
open PySem PySem.Spec PyProof.Rows L2
section
variable {X:Cx} {cl:Nat→Addr} {ρ:Env} {k:Kd} {tg:List Nat} {one:Bool} {g:TG} {tgE iter:Expr} {H H0 H1:Hp} {F:Nat→List Addr} {σ:L2.St} {a:Addr} {o:Obj} {kvs:List (Key × V)}
end
section
variable {X:Cx} {cl:Nat→Addr} {M:Tab} {a b c e o:Expr} {es rest:List Expr} {pos p p2 apos cpos spos:Pos} {a' b' c' e' o':E} {es':List E}
end
end Vi
namespace SP
open PySem PySem.W PyProof.Rows
section
variable {n:Nat} {key:Nat→Int} {cmp:Nat→Nat→(Bool→Shared→Prop)→Shared→Prop} {s:Shared}
noncomputable def Kp (key:Nat→Int) (p:Array Nat) (i:Nat):Int:=key (p.getD i 0)
noncomputable def In (n:Nat) (p:Array Nat):Prop:=p.Perm (List.toArray (List.range n))
theorem In.size {p:Array Nat} (h:In n p):p.size=n:=by have:=h.size_eq; simpa using this
theorem In.lt {p:Array Nat} (h:In n p) (h0:0 < n) (i:Nat):p.getD i 0 < n:=by
 by_cases hi:i < p.size
 ·have hm:p.getD i 0∈p:=by rw [Array.getD_eq_getD_getElem?,Array.getElem?_eq_getElem hi]; exact Array.getElem_mem hi
  have:=h.mem_iff.mp hm
  simpa using this
 ·rw [Array.getD_eq_getD_getElem?,Array.getElem?_eq_none (by exact Nat.not_lt.mp ‹_›)]; exact h0
theorem In.inj {p:Array Nat} (h:In n p) {i j:Nat} (hi:i < n) (hj:j < n) (e:p.getD i 0=p.getD j 0):i=j:=by
 have hz:=h.size
 have hl:p.toList.Perm (List.range n):=by simpa [In,Array.perm_iff_toList_perm] using h
 have nd:p.toList.Nodup:=hl.nodup_iff.mpr List.nodup_range
 have hi':i < p.toList.length:=by simpa [hz] using hi
 have hj':j < p.toList.length:=by simpa [hz] using hj
 refine (List.getElem_inj (h₀:=hi') (h₁:=hj') nd).mp ?_
 have ei:p.getD i 0=p.toList[i]:=by rw [Array.getD_eq_getD_getElem?,Array.getElem?_eq_getElem (by assumption)]; simp
 have ej:p.getD j 0=p.toList[j]:=by rw [Array.getD_eq_getD_getElem?,Array.getElem?_eq_getElem (by assumption)]; simp
 rw [← ei,← ej,e]
variable (hk:∀ i j,i < n→j < n→key i=key j→i=j) (h0:0 < n) (hc:∀ i j (C:Bool→Shared→Prop),i < n→j < n→i≠j→C (decide (key i < key j)) s→cmp i j C s)
include h0 hc
theorem asc {p:Array Nat} (hp:In n p):∀ (f m:Nat) (Q:Nat→Shared→Prop),1≤m→m+f≤n→(∀ r,m≤r→r≤m+f→(∀ i,m≤i→i < r→Kp key p (i - 1)≤Kp key p i)→(r < m+f→Kp key p r < Kp key p (r - 1))→Q r s)→(kas_asc p f m).kasWp cmp Q s
 | 0,m,Q,_,_,h=>h m (Nat.le_refl _) (Nat.le_refl _) (fun i a b=>by exact absurd ‹_ < _› (Nat.not_lt.mpr ‹_≤_›)) (fun x=>by exact absurd ‹_ < _› (Nat.lt_irrefl _))
 | f+1,m,Q,h1,hn,h=>by
  refine hc _ _ _ (hp.lt h0 _) (hp.lt h0 _) (fun e=>by have:=hp.inj (by exact Nat.lt_of_le_of_lt (Nat.le_add_right _ _) ‹_›) (by omega) e; omega) ?_
  by_cases q:key (p.getD m 0) < key (p.getD (m - 1) 0)
  ·rw [decide_eq_true q]; show KasT.kasWp cmp (if true=true then _ else _) _ _; rw [if_pos rfl]
   exact h m (Nat.le_refl _) (by exact Nat.le_add_right _ _) (fun i a b=>by exact absurd ‹_ < _› (Nat.not_lt.mpr ‹_≤_›)) (fun _=>q)
  ·rw [decide_eq_false q]; show KasT.kasWp cmp (if false=true then _ else _) _ _; rw [if_neg Bool.false_ne_true]
   refine asc hp f (m+1) Q (by exact Nat.le_succ_of_le ‹_›) (by omega) fun r a b c d=>h r (by exact Nat.le_of_lt ‹_›) (by omega) (fun i x y=>?_) (fun x=>d (by omega))
   by_cases e:i=m
   ·subst e; exact Int.not_lt.mp q
   ·exact c i (by omega) y
include hk in
theorem desc {p:Array Nat} (hp:In n p):∀ (f m:Nat) (Q:Array Nat × Nat × Nat→Shared→Prop),1≤m→m+f≤n→(∀ r,m≤r→r≤m+f→(∀ i,m≤i→i < r→Kp key p i≤Kp key p (i - 1))→Q (p,r,0) s)→(kas_desc f p m 0).kasWp cmp Q s
 | 0,m,Q,_,_,h=>h m (Nat.le_refl _) (Nat.le_refl _) (fun i a b=>by exact absurd ‹_ < _› (Nat.not_lt.mpr ‹_≤_›))
 | f+1,m,Q,h1,hn,h=>by
  refine hc _ _ _ (hp.lt h0 _) (hp.lt h0 _) (fun e=>by have:=hp.inj (by exact Nat.lt_of_le_of_lt (Nat.le_add_right _ _) ‹_›) (by omega) e; omega) ?_
  by_cases q:key (p.getD m 0) < key (p.getD (m - 1) 0)
  ·rw [decide_eq_true q]; show KasT.kasWp cmp (if true=true then _ else _) _ _; rw [if_pos rfl,if_neg (by decide)]
   refine desc hp f (m+1) Q (by exact Nat.le_succ_of_le ‹_›) (by omega) fun r a b c=>h r (by exact Nat.le_of_lt ‹_›) (by omega) fun i x y=>?_
   by_cases e:i=m
   ·subst e; exact Int.le_of_lt q
   ·exact c i (by omega) y
  ·rw [decide_eq_false q]; show KasT.kasWp cmp (if false=true then _ else _) _ _; rw [if_neg Bool.false_ne_true]
   have hne:key (p.getD (m - 1) 0) < key (p.getD m 0):=by
    rcases Int.lt_or_eq_of_le (Int.not_lt.mp q) with z | z
    ·exact z
    ·have:=hp.inj (by omega) (by exact Nat.lt_of_le_of_lt (Nat.le_add_right _ _) ‹_›) (hk _ _ (hp.lt h0 _) (hp.lt h0 _) z)
     omega
   refine hc _ _ _ (hp.lt h0 _) (hp.lt h0 _) (fun e=>by have:=hp.inj (by omega) (by exact Nat.lt_of_le_of_lt (Nat.le_add_right _ _) ‹_›) e; omega) ?_
   rw [decide_eq_true hne]; show KasT.kasWp cmp (if true=true then _ else _) _ _; rw [if_pos rfl]
   exact h m (Nat.le_refl _) (by exact Nat.le_add_right _ _) (fun i a b=>by exact absurd ‹_ < _› (Nat.not_lt.mpr ‹_≤_›))
omit h0 hc in
theorem rev_in {p:Array Nat} (hp:In n p) (i j:Nat):In n (kas_rev p i j):=(mirror_perm p i j _).trans hp
omit h0 hc in
theorem rev_at {p:Array Nat} {m:Nat} (hm:m≤p.size) {k:Nat} (hk:k < m):(kas_rev p 0 m).getD k 0=p.getD (m - 1 - k) 0:=by
 unfold kas_rev
 rw [Array.getD_eq_getD_getElem?,getElem?_mirror_all hm,if_pos (by omega),Array.getD_eq_getD_getElem?]
 congr 2
 omega
omit h0 hc in
noncomputable def Up (key:Nat→Int) (p:Array Nat) (m:Nat):Prop:=∀ i,1≤i→i < m→Kp key p (i - 1)≤Kp key p i
omit h0 hc in
theorem Up.le {p:Array Nat} {m:Nat} (h:Up key p m):∀ {i j:Nat},i≤j→j < m→Kp key p i≤Kp key p j:=by
 intro i j hij
 induction j with
 | zero =>
  intro _
  have:i=0:=by omega
  subst this
  exact Int.le_refl _
 | succ j ih =>
  intro hj
  by_cases e:i=j+1
  ·subst e; exact Int.le_refl _
  ·exact Int.le_trans (ih (by omega) (by exact Nat.le_of_lt ‹_›)) (h (j+1) (by exact Nat.succ_pos _) hj)
include hk in
theorem count {p:Array Nat} (hp:In n p) (Q:Nat × Array Nat→Shared→Prop) (h:∀ r q,1≤r→r≤n→In n q→Up key q r→Q (r,q) s):(kas_count n p).kasWp cmp Q s:=by
 unfold kas_count
 rw [KasT.kasWp_bind]
 refine asc h0 hc hp (n - 1) 1 _ (by decide) (by omega) fun m a b c d=>?_
 have up:Up key p m:=fun i x y=>c i x y
 by_cases e:m=n
 ·rw [if_pos (by simp [e])]
  exact h m p a (by exact Nat.le_of_eq ‹_›) hp up
 ·rw [if_neg (by simp [e])]
  by_cases e1:m > 1
  ·rw [if_pos e1]
   refine hc _ _ _ (hp.lt h0 _) (hp.lt h0 _) (fun e=>by have:=hp.inj (by assumption) (by omega) e; omega) ?_
   have hlt:key (p.getD 0 0) < key (p.getD (m - 1) 0):=by
    rcases Int.lt_or_eq_of_le (up.le (i:=0) (j:=m - 1) (by exact Nat.zero_le _) (by exact Nat.sub_lt ‹_› (by decide))) with z | z
    ·exact z
    ·have:=hp.inj (i:=0) (j:=m - 1) (by assumption) (by omega) (hk _ _ (hp.lt h0 _) (hp.lt h0 _) z)
     omega
   rw [decide_eq_true hlt]; show KasT.kasWp cmp (if true=true then _ else _) _ _; rw [if_pos rfl]
   exact h m p a (by omega) hp up
  ·rw [if_neg e1]
   have em:m=1:=by omega
   subst em
   unfold kas_descPart
   rw [KasT.kasWp_bind]
   refine desc hk h0 hc hp _ 2 _ (by decide) (by omega) fun r a1 b1 c1=>?_
   show KasT.kasWp cmp (if 0 > 0 then _ else kas_tail3 r n p) _ _
   rw [if_neg (Nat.lt_irrefl 0)]
   have hz:=hp.size
   have dn:∀ i,1≤i→i < r→Kp key p i≤Kp key p (i - 1):=fun i x y=>by
    by_cases e2:i=1
    ·subst e2; exact Int.le_of_lt (d (by omega))
    ·exact c1 i (by omega) y
   unfold kas_tail3
   rw [KasT.kasWp_bind]
   have hr:=rev_in hp 0 r
   refine asc h0 hc hr _ r _ (by exact Nat.le_of_lt ‹_›) (by omega) fun m2 a2 b2 c2 d2=>?_
   refine h m2 _ (by omega) (by omega) hr fun i x y=>?_
   by_cases e3:i < r
   ·show key _≤key _
    rw [rev_at (by omega) e3,rev_at (by omega) (by omega)]
    have:=dn (r - 1 - (i - 1)) (by omega) (by omega)
    rwa [show r - 1 - (i - 1) - 1=r - 1 - i by omega] at this
   ·exact c2 i (by exact Nat.not_lt.mp ‹_›) y
theorem place {p:Array Nat} (hp:In n p) {k:Nat} (hkn:k < n) (up:Up key p k):∀ (f l r:Nat) (Q:Nat→Shared→Prop),l≤r→r≤k→r - l≤f→(∀ i,i < l→Kp key p i≤Kp key p k)→(∀ i,r≤i→i < k→Kp key p k≤Kp key p i) →
  (∀ m,m≤k→(∀ i,i < m→Kp key p i≤Kp key p k)→(∀ i,m≤i→i < k→Kp key p k≤Kp key p i)→Q m s)→(kas_place p k f l r).kasWp cmp Q s
 | 0,l,r,Q,h1,h2,h3,a,b,h=>h l (by exact Nat.le_trans ‹_› ‹_›) a fun i x y=>b i (by omega) y
 | f+1,l,r,Q,h1,h2,h3,a,b,h=>by
  unfold kas_place
  by_cases e:l ≥ r
  ·rw [if_pos e]
   exact h l (by exact Nat.le_trans ‹_› ‹_›) a fun i x y=>b i (by exact Nat.le_trans ‹_› ‹_›) y
  ·rw [if_neg e]
   refine hc _ _ _ (hp.lt h0 _) (hp.lt h0 _) (fun e=>by have:=hp.inj hkn (by omega) e; omega) ?_
   by_cases q:key (p.getD k 0) < key (p.getD ((l+r) / 2) 0)
   ·rw [decide_eq_true q]; show KasT.kasWp cmp (if true=true then _ else _) _ _; rw [if_pos rfl]
    exact place hp hkn up f l ((l+r) / 2) Q (by omega) (by omega) (by omega) a (fun i x y=>Int.le_trans (Int.le_of_lt q) (up.le x y)) h
   ·rw [decide_eq_false q]; show KasT.kasWp cmp (if false=true then _ else _) _ _; rw [if_neg Bool.false_ne_true]
    exact place hp hkn up f ((l+r) / 2+1) r Q (by omega) h2 (by omega) (fun i x=>Int.le_trans (up.le (i:=i) (j:=(l+r) / 2) (by exact Nat.le_of_lt_succ ‹_›) (by omega)) (Int.not_lt.mp q)) b h
theorem bins:∀ (f:Nat) {p:Array Nat} (k:Nat) (Q:Array Nat→Shared→Prop),In n p→Up key p k→1≤k→k+f=n→(∀ q,In n q→Up key q n→Q q s)→(kas_bin f p k).kasWp cmp Q s
 | 0,p,k,Q,hp,up,_,e,h=>h p hp (by rwa [show k=n by assumption] at up)
 | f+1,p,k,Q,hp,up,h1,e,h=>by
  unfold kas_bin
  rw [KasT.kasWp_bind]
  refine place h0 hc hp (by omega) up k 0 k _ (by exact Nat.le_of_lt ‹_›) (by exact Nat.le_refl _) (by exact Nat.le_refl _) (fun i x=>by exact absurd ‹_ < _› (Nat.not_lt_zero _)) (fun i x y=>by exact absurd ‹_ < _› (Nat.not_lt.mpr ‹_≤_›)) fun m hm a b=>?_
  have hz:=hp.size
  have hq:In n (bubble p k (k - m)):=(bubble_perm p k _).trans hp
  have at_:∀ i,(bubble p k (k - m)).getD i 0=if i=m then p.getD k 0 else if m < i∧i≤k then p.getD (i - 1) 0 else p.getD i 0:=fun i=>by
   rw [Array.getD_eq_getD_getElem?,getElem?_bubble (by omega) _ (by exact Nat.sub_le _ _),show k - (k - m)=m by omega]
   split
   ·rw [Array.getD_eq_getD_getElem?]
   ·split <;> rw [Array.getD_eq_getD_getElem?]
  refine bins f (k+1) Q hq (fun i x y=>?_) (by exact Nat.le_succ_of_le ‹_›) (by omega) h
  show key _≤key _
  rw [at_,at_]
  by_cases e1:i=m
  ·rw [if_pos e1,if_neg (show ¬ i - 1=m by omega),if_neg (show ¬(m < i - 1∧i - 1≤k) by omega)]
   exact a (i - 1) (by omega)
  ·rw [if_neg e1]
   by_cases e2:m < i
   ·rw [if_pos (show m < i∧i≤k from ⟨e2,by exact Nat.le_of_lt_succ ‹_›⟩)]
    by_cases e3:i - 1=m
    ·rw [if_pos e3]
     exact b (i - 1) (by exact Nat.le_of_eq (Eq.symm ‹_›)) (by omega)
    ·rw [if_neg e3,if_pos (show m < i - 1∧i - 1≤k from ⟨by omega,by omega⟩)]
     exact up (i - 1) (by omega) (by omega)
   ·rw [if_neg (show ¬(m < i∧i≤k) by omega),if_neg (show ¬ i - 1=m by omega),if_neg (show ¬(m < i - 1∧i - 1≤k) by omega)]
    exact up i x (by omega)
include hk in
theorem sort_wp (Q:Array Nat→Shared→Prop) (h:∀ q,In n q→Up key q n→Q q s):(kas_sort n).kasWp cmp Q s:=by
 unfold kas_sort
 rw [KasT.kasWp_bind]
 refine count hk h0 hc (p:=List.toArray (List.range n)) (Array.Perm.refl _) _ fun r q a b c d=>?_
 by_cases e:r < n
 ·rw [if_pos e]
  have:max r 1=r:=by omega
  simp only [this]
  exact bins h0 hc (n - r) r _ c d a (by omega) h
 ·rw [if_neg e]
  exact h q c (by rwa [show r=n by omega] at d)
end
end SP
namespace SP
open PySem PySem.W PyProof.Rows PySem.Calls
section
variable {prog:Program} {w:World} {A:Around} {E:Value→Shared→Prop} {s:Shared} {h₀:Heap} {L:Addr} {m:Str→Option Value} {news:List (Addr × Obj)} {vs:List Value}
noncomputable def Head (h : Heap) (v : Value) (k : Int) : Prop := ∃ a o xs n t, v = .ref a ∧ h.get? a = some o ∧ o.cls = .type "tuple" ∧ o.data = .seq xs n ∧ xs[0]? = some (.int k t)
theorem tups_of {h:Heap}:∀ {vs:List Value},(∀ v∈vs,∃ k,Head h v k)→∃ fs,KatTups h vs fs∧fs.length=vs.length∧∀ f∈fs,∃ i t,f=Value.int i t
 | [],_=>⟨[],trivial,rfl,fun _ h=>nomatch h⟩
 | v::vs,hv=>by
  refine zz fun P_ k_=>?_
  obtain ⟨fs,h1,h2,h3⟩:=tups_of fun u hu=>hv u (List.mem_cons_of_mem _ hu)
  obtain ⟨k,a,o,xs,n,t,rfl,ho,hc,hd,hf⟩:=hv v List.mem_cons_self
  refine k_ ?_
  refine ⟨.int k t::fs,.cons ho hc hd hf h1,by rw [List.length_cons,List.length_cons,h2],fun f hf=>?_⟩
  rcases List.mem_cons.mp hf with rfl | hf
  ·exact ⟨k,t,rfl⟩
  ·exact h3 f hf
theorem lt_heads {u v:Value} {i j:Int} {Q:Bool→Shared→Prop} (hu:Head s.heap u i) (hv:Head s.heap v j) (hne:i≠j) (q:Q (decide (i < j)) s):wpAny (model prog w) A (keyLt' (tuples' true) u v) Q E s:=by
 refine zz fun P_ k_=>?_
 obtain ⟨a,o,xs,n,t,rfl,ho,hc,hd,hf⟩:=hu
 obtain ⟨b,o',ys,n',t',rfl,ho',hc',hd',hf'⟩:=hv
 refine k_ ?_
 refine kat_lt ho hd ho' hd' ?_
 refine zz fun P_ k_=>?_
 obtain ⟨xr,ex⟩:∃ xr,xs.toList=.int i t::xr:=by
  have:xs.toList[0]?=some (.int i t):=by simpa using hf
  match hx:xs.toList,this with
  | x::xr,this =>
   have e:x=.int i t:=by simpa using this
   exact ⟨xr,by rw [e]⟩
 obtain ⟨yr,ey⟩:∃ yr,ys.toList=.int j t'::yr:=by
  have:ys.toList[0]?=some (.int j t'):=by simpa using hf'
  match hx:ys.toList,this with
  | x::xr,this =>
   have e:x=.int j t':=by simpa using this
   exact ⟨xr,by rw [e]⟩
 refine k_ ?_
 rw [ex,ey,List.zip_cons_cons]
 refine kat_cons (wpAny_eqBool_int ?_)
 have:(i == j)=false:=by simpa using hne
 rw [this]
 exact kat_no (oneLt_int q)
theorem sorted_tups {l:Addr} {key:Nat→Int} {Q:Value→Shared→Prop} (F:Fr h₀ L s.heap m) (N:News h₀ L s.heap news) (hl:s.heap.IsList l vs.toArray) (h2:2≤vs.length) (h64:vs.length < 64)
  (ht : ∀ i, i < vs.length → ∃ a o xs n t, vs.getD i Value.none = .ref a ∧ (a, o) ∈ news ∧ o.cls = .type "tuple" ∧ o.data = .seq xs n ∧ xs[0]? = some (.int (key i) t))
  (hk:∀ i j,i < vs.length→j < vs.length→key i=key j→i=j)
  (h:∀ q D h' c,In vs.length q→Up key q vs.length→(∀ p∈news,p.1 < D)→Fr h₀ L h' m→News h₀ L h' ((D,listOf (List.toArray (q.toList.map fun i=>vs.getD i Value.none)) c)::news)→Q (.ref D) { s with heap:=h' }) :
  wpAny (model prog w) A (call (.builtin "sorted") [.ref l]) Q E s := by
 refine kat_sorted F N hl h2 h64 fun D e1 h' F' N' hD=>?_
 have hd:∀ i,i < vs.length→Head h' (vs.getD i Value.none) (key i):=fun i hi=>by
  refine zz fun P_ k_=>?_
  obtain ⟨a,o,xs,n,t,e,hm,hc,hdd,hf⟩:=ht i hi
  refine k_ ?_
  exact ⟨a,o,xs,n,t,e,(N' _ (List.mem_cons_of_mem _ hm)).1,hc,hdd,hf⟩
 refine zz fun P_ k_=>?_
 obtain ⟨fs,k1,k2,k3⟩:=tups_of (h:=h') (vs:=vs) fun v hv=>by
  obtain ⟨i,hi,e⟩:=List.getElem_of_mem hv
  refine ⟨key i, ?_⟩
  have:=hd i hi
  rwa [List.getD_eq_getElem?_getD,List.getElem?_eq_getElem hi,Option.getD_some,e] at this
 refine k_ ?_
 refine kat_kind (s := { s with heap := h' }) (T := .type "int") k1 (by omega) (fun v hv => ?_) (by decide) ?_
 ·obtain ⟨i,t,rfl⟩:=k3 v hv
  exact .of_pure rfl
 ·refine sort_wp hk (by exact Nat.le_of_lt ‹_›) (fun i j C hi hj hij q=>?_) _ fun q hq up=>?_
  ·exact lt_heads (s:={ s with heap:=h' }) (hd i hi) (hd j hj) (fun e=>hij (hk i j hi hj e)) q
  ·exact KasFin.intro F' N' (.head fun p hp=>Nat.ne_of_lt (hD p hp)) fun h2 c F2 N2=>h q D h2 c hq up hD F2 N2
end
end SP
namespace SP
open PySem PySem.W PyProof.Rows PySem.Calls
section
variable {prog:Program} {w:World} {A:Around} {E:Value→Shared→Prop} {s:Shared} {h₀:Heap} {L:Addr} {m:Str→Option Value} {news:List (Addr × Obj)} {vs:List Value}
theorem jb {a : Addr} {n : Nat} {P : PySem.Fin → Shared → Prop} (F : Fr h₀ L s.heap m) (N : News h₀ L s.heap news) (ho : s.heap.get? a = some (seqObj "list" vs.toArray n)) (ne : a ≠ L) (new : h₀.get? a = none) (off : ∀ p ∈ news, p.1 ≠ a) (few : vs.length < 2)
  (h : ∀ c h', Fr h₀ L h' m → News h₀ L h' ((a, seqObj "list" vs.toArray c) :: news) → P (.done (.ret .none)) { s with heap := h' }) : wpAny (model prog w) A (Builtin.«list.sort» ⟨[.ref a], []⟩) P E s := by
 rw [list_sort_plain]
 have b1:=Heap.SameBut.update s.heap a (Obj.mapSeq fun _=>(#[]:Array Value))
 obtain ⟨e1, ho1⟩ : ∃ e1, (s.heap.update a (Obj.mapSeq fun _ => (#[] : Array Value))).get? a = some (seqObj "list" #[] e1) := ⟨_, get?_update_seq ho fun _ => #[]⟩
 have line:vs.length≤sizeLine:=by rw [sizeLine_eq]; omega
 refine wpAny_bind (listItems_at ho rfl (wpAny_bind (listUpdate_at ho rfl ?_ (by rw [List.size_toArray]; exact line) (Nat.zero_le _))))
 refine wpAny_bind (seqEpoch_at ho1 rfl (wpAny_bind (wpAny_newTuple ?_ (by show vs.length≤_; exact line))))
 refine wpAny_bind (wpAny_newList (wpAny_holding ?_) (Nat.zero_le _))
 dsimp only
 have hn:vs.toArray.size < 2:=by rw [List.size_toArray]; exact few
 rw [if_pos hn,if_pos hn]
 refine wpAny_bind (wpAny_pure ?_)
 rw [StateT.run_pure]
 refine wpAny_bind (wpAny_pure ?_)
 dsimp only
 have ga : (((s.heap.update a (Obj.mapSeq fun _ => (#[] : Array Value))).push (seqObj "tuple" vs.toArray 0)).push (seqObj "list" #[] 0)).get? a = some (seqObj "list" #[] e1) := Heap.get?_push_of_some _ (Heap.get?_push_of_some _ ho1)
 have out:(arrOf (SortSt.mk' general' (vs.toArray.zip vs.toArray) #[] 7 none)).map (·.2)=vs.toArray:=by
  show (vs.toArray.zip vs.toArray).map (·.2)=_
  rw [Array.map_snd_zip (Nat.le_refl _)]
 rw [out]
 generalize hh : (((s.heap.update a (Obj.mapSeq fun _ => (#[] : Array Value))).push (seqObj "tuple" vs.toArray 0)).push (seqObj "list" #[] 0)) = h3 at ga
 have F3:Fr h₀ L h3 m:=hh ▸ ((kas_fr F b1 ne new).push _).push _
 have N3:News h₀ L h3 news:=hh ▸ (kas_news N b1 off).grown fun b x e=>Heap.get?_push_of_some _ (Heap.get?_push_of_some _ e)
 have b2:=Heap.SameBut.update h3 a (Obj.mapSeq fun _=>vs.toArray)
 obtain ⟨c2, hc2⟩ : ∃ c2, (h3.update a (Obj.mapSeq fun _ => vs.toArray)).get? a = some (seqObj "list" vs.toArray c2) := ⟨_, get?_update_seq ga fun _ => vs.toArray⟩
 show wpAny _ _ _ _ _ { s with heap:=_ }
 refine wpAny_bind (seqEpoch_at (s:={ s with heap:=h3 }) ga rfl (wpAny_bind (listUpdate_at (s:={ s with heap:=h3 }) ga rfl ?_ (Nat.zero_le _) (by rw [List.size_toArray]; exact Nat.le_succ_of_le line))))
 simp only [bne_self_eq_false,Bool.false_eq_true,if_false]
 refine wpAny_pure (h c2 _ (kas_fr F3 b2 ne new) fun p hp=>?_)
 rcases List.mem_cons.mp hp with e | e
 ·rw [e]; exact ⟨hc2,ne,new⟩
 ·exact kas_news N3 b2 off p e
theorem sorted_small {l:Addr} {Q:Value→Shared→Prop} (F:Fr h₀ L s.heap m) (N:News h₀ L s.heap news) (hl:s.heap.IsList l vs.toArray) (few:vs.length < 2)
  (h:∀ D h' c,(∀ p∈news,p.1 < D)→Fr h₀ L h' m→News h₀ L h' ((D,listOf vs.toArray c)::news)→Q (.ref D) { s with heap:=h' }) :
  wpAny (model prog w) A (call (.builtin "sorted") [.ref l]) Q E s := by
 have line:vs.length≤sizeLine:=by rw [sizeLine_eq]; omega
 refine Calls.call_function_entry kind_sorted plain_sorted entry_sorted (args_sorted1 _) ?_
 unfold Builtin.«sorted»
 refine wpAny_bind (m := checkCount "sorted" 1 1 _) (wpAny_pure ?_)
 refine wpAny_bind (collect_list hl (wpAny_bind (wpAny_newList ?_ line)) line)
 generalize hg : (s.heap.push (seqObj "list" #[] 0)).update s.heap.objs.size (Obj.mapSeq (· ++ vs.toArray)) = g
 have gz:g.objs.size=s.heap.objs.size+1:=by rw [← hg,Heap.size_update,size_push']
 have kp : ∀ b o, s.heap.get? b = some o → (g.push (seqObj "list" vs.toArray 0)).get? b = some o := fun b o q => by
  have lt:=Heap.lt_size q
  rw [Heap.get?_push_ne _ _ _ (by rw [gz]; exact Nat.ne_of_lt (Nat.lt_succ_of_lt lt)),← hg,Heap.get?_update_ne _ _ _ _ (Nat.ne_of_lt lt),Heap.get?_push_ne _ _ _ (Nat.ne_of_lt lt)]
  exact q
 have at_ : (g.push (seqObj "list" vs.toArray 0)).get? g.objs.size = some (seqObj "list" vs.toArray 0) := Heap.get?_push_size _ rfl
 have lL:L < s.heap.objs.size:=F.ns.lt
 have gt:∀ {b:Addr},b < s.heap.objs.size→b < g.objs.size:=fun lt=>by rw [gz]; exact Nat.lt_succ_of_lt lt
 show wpAny _ _ _ _ _ { s with heap:=_ }
 refine wpAny_bind (wpAny_holding (wpAny_call_entry slot_list_sort ⟨_,at_,rfl⟩ entry_list_sort ?body (args_list_sort _)))
 case body =>
  refine jb (s := { s with heap := g.push (seqObj "list" vs.toArray 0) }) (F.kept kp) (N.grown kp) at_ (Nat.ne_of_gt (gt lL)) (Heap.get?_none_of_le (Nat.le_trans F.above (Nat.le_of_lt (gt lL)))) (fun p hp => Nat.ne_of_lt (gt (Heap.lt_size (N p hp).1))) few fun c h' F' N' => ?_
  exact ⟨_,rfl,wpAny_pure ⟨_,rfl,h _ h' c (fun p hp=>gt (Heap.lt_size (N p hp).1)) F' N'⟩⟩
end
end SP
namespace SP
open PySem PySem.W PyProof.Rows PySem.Calls
section
variable {prog:Program} {w:World} {A:Around} {E:Value→Shared→Prop} {s:Shared} {h₀:Heap} {L:Addr} {m:Str→Option Value} {news:List (Addr × Obj)} {vs:List Value}
theorem lsort {a : Addr} {n : Nat} {key : Nat → Int} {P : PySem.Fin → Shared → Prop} (F : Fr h₀ L s.heap m) (N : News h₀ L s.heap news) (ho : s.heap.get? a = some (seqObj "list" vs.toArray n)) (ne : a ≠ L) (new : h₀.get? a = none) (off : ∀ p ∈ news, p.1 ≠ a) (h64 : vs.length < 64)
  (ht : ∀ i, i < vs.length → ∃ b o xs n t, vs.getD i Value.none = .ref b ∧ (b, o) ∈ news ∧ o.cls = .type "tuple" ∧ o.data = .seq xs n ∧ xs[0]? = some (.int (key i) t))
  (hk:∀ i j,i < vs.length→j < vs.length→key i=key j→i=j)
  (h:∀ q c h',In vs.length q→Up key q vs.length→Fr h₀ L h' m→News h₀ L h' ((a,listOf (List.toArray (q.toList.map fun i=>vs.getD i Value.none)) c)::news)→P (.done (.ret .none)) { s with heap:=h' }) :
  wpAny (model prog w) A (Builtin.«list.sort» ⟨[.ref a],[]⟩) P E s:=by
 by_cases h2:2≤vs.length
 ·refine kat_list_sort F N ho ne new off h2 h64 fun e1 h' F' N'=>?_
  have hd:∀ i,i < vs.length→Head h' (vs.getD i Value.none) (key i):=fun i hi=>by
   refine zz fun P_ k_=>?_
   obtain ⟨b,o,xs,n,t,e,hm,hc,hdd,hf⟩:=ht i hi
   refine k_ ?_
   exact ⟨b,o,xs,n,t,e,(N' _ (List.mem_cons_of_mem _ hm)).1,hc,hdd,hf⟩
  refine zz fun P_ k_=>?_
  obtain ⟨fs,k1,k2,k3⟩:=tups_of (h:=h') (vs:=vs) fun v hv=>by
   obtain ⟨i,hi,e⟩:=List.getElem_of_mem hv
   refine ⟨key i, ?_⟩
   have:=hd i hi
   rwa [List.getD_eq_getElem?_getD,List.getElem?_eq_getElem hi,Option.getD_some,e] at this
  refine k_ ?_
  refine kat_kind (s := { s with heap := h' }) (T := .type "int") k1 (by omega) (fun v hv => ?_) (by decide) ?_
  ·obtain ⟨i,t,rfl⟩:=k3 v hv
   exact .of_pure rfl
  ·refine sort_wp hk (by exact Nat.le_of_lt ‹_›) (fun i j C hi hj hij q=>?_) _ fun q hq up=>?_
   ·exact lt_heads (s:={ s with heap:=h' }) (hd i hi) (hd j hj) (fun e=>hij (hk i j hi hj e)) q
   ·exact KasFin.intro F' N' (.head off) fun h2 c F2 N2=>h q c h2 hq up F2 N2
 ·refine jb F N ho ne new off (Nat.lt_of_not_le h2) fun c h' F' N'=>?_
  have e:(List.range vs.length).map (fun i=>vs.getD i Value.none)=vs:=by
   refine List.ext_getElem (by simp) fun i h1 h2=>?_
   simp [List.getD_eq_getElem?_getD,List.getElem?_eq_getElem h2]
  exact h (List.toArray (List.range vs.length)) c h' (Array.Perm.refl _) (fun i h1 h3=>absurd h2 (by omega)) F' (by rw [e]; exact N')
end
end SP
namespace SP
open PySem PySem.W PyProof.Rows PySem.Calls
section
variable {prog:Program} {w:World} {A:Around} {E:Value→Shared→Prop} {s:Shared} {h₀:Heap} {L:Addr} {m:Str→Option Value} {news:List (Addr × Obj)}
noncomputable def objsAt (h:Heap) (as:List Addr):List (Addr × Obj):=as.filterMap fun a=>(h.get? a).map fun o=>(a,o)
theorem gb {h:Heap} {as:List Addr} {p:Addr × Obj}:p∈objsAt h as↔p.1∈as∧h.get? p.1=some p.2:=by
 unfold objsAt
 rw [List.mem_filterMap]
 constructor
 ·rintro ⟨a,ha,e⟩
  cases q:h.get? a with
  | none=>rw [q] at e; injection e
  | some o=>rw [q] at e; injection e with e; subst e; exact ⟨ha,q⟩
 ·rintro ⟨h1,h2⟩
  exact ⟨p.1,h1,by rw [h2]; rfl⟩
theorem sorted_items {K:Type} [DecidableEq K] {knd:KeyKind prog w K} {kvs:List (K × Value)} {ep:Nat} {r d:Addr} {key:Nat→Int} {Q:Value→Shared→Prop} (hh:A.handled=none) (F:Fr h₀ L s.heap m) (N:News h₀ L s.heap news) (hv:s.heap.IsItemsView r d) (hm:s.heap.DictAt knd d kvs ep) (h64:kvs.length < 64)
  (hkey:∀ (i:Nat) k x v,kvs[i]?=some (k,x)→knd.is k v=true→∃ t,v=.int (key i) t) (hk:∀ i j,i < kvs.length→j < kvs.length→key i=key j→i=j)
  (h:∀ (as:List Addr) q D c h' tk,as.length=kvs.length→as.Nodup→(∀ a∈as,s.heap.objs.size≤a∧a < D)→In kvs.length q→Up key q kvs.length→(∀ b o,s.heap.get? b=some o→b≠L→b < D) →
   (∀ (j : Nat) a, as[j]? = some a → ∃ v k x, kvs[j]? = some (k, x) ∧ knd.is k v = true ∧ h'.get? a = some { cls := .type "tuple", data := .seq #[v, x] }) → Fr h₀ L h' m →
   News h₀ L h' ((D,listOf (List.toArray (q.toList.map fun i=>(as.map Value.ref).getD i Value.none)) c)::news)→Q (.ref D) { s with heap:=h',toks:=tk }) :
  wpAny (model prog w) A (call (.builtin "sorted") [.ref r]) Q E s := by
 have line:kvs.length≤sizeLine:=by rw [sizeLine_eq]; omega
 refine Calls.call_function_entry kind_sorted plain_sorted entry_sorted (args_sorted1 _) ?_
 unfold Builtin.«sorted»
 refine wpAny_bind (m := checkCount "sorted" 1 1 _) (wpAny_pure ?_)
 refine wpAny_bind (kdx_collect (A:=A.in1) hh hv hm line fun g tk as keep hl hG=>wpAny_bind (wpAny_newList ?_ (by rw [List.length_map,hl]; exact line)))
 have Fg:Fr h₀ L g m:=F.keeps keep
 have Ng:News h₀ L g (objsAt g as++news):=fun p hp=>by
  rcases List.mem_append.mp hp with z | z
  ·obtain ⟨z1,z2⟩:=gb.mp z
   exact ⟨z2,kdx_fresh F (Nat.le_of_lt (hG.above _ z1))⟩
  ·exact ⟨keep _ _ (N p z).1,(N p z).2⟩
 have kp : ∀ b o, g.get? b = some o → (g.push (seqObj "list" (as.map Value.ref).toArray 0)).get? b = some o := fun b o q => Heap.get?_push_of_some _ q
 have at_ : (g.push (seqObj "list" (as.map Value.ref).toArray 0)).get? g.objs.size = some (seqObj "list" (as.map Value.ref).toArray 0) := Heap.get?_push_size _ rfl
 have lL:L < g.objs.size:=Fg.ns.lt
 have hlen:(as.map Value.ref).length=kvs.length:=by rw [List.length_map,hl]
 have lt:∀ a∈as,a < g.objs.size:=fun a ha=>hG.there ha
 show wpAny _ _ _ _ _ { s with heap:=_,toks:=tk }
 refine wpAny_bind (wpAny_holding (wpAny_call_entry slot_list_sort ⟨_,at_,rfl⟩ entry_list_sort ?body (args_list_sort _)))
 case body =>
  refine lsort (vs := as.map Value.ref) (key := key) (s := { s with heap := g.push (seqObj "list" (as.map Value.ref).toArray 0), toks := tk }) (Fg.kept kp) (Ng.grown kp) at_ (Nat.ne_of_gt lL) (Heap.get?_none_of_le (Nat.le_trans Fg.above (Nat.le_of_lt lL))) (fun p hp => Nat.ne_of_lt (Heap.lt_size (Ng p hp).1)) (by rw [hlen]; exact h64) (fun i hi => ?_) (fun i j hi hj => hk i j (by rw [← hlen]; exact hi) (by rw [← hlen]; exact hj)) fun q c h' hq up F' N' => ?_
  ·have hi':i < as.length:=by rw [List.length_map] at hi; exact hi
   refine zz fun P_ k_=>?_
   obtain ⟨v,k,x,e1,e2,e3⟩:=hG.pairs i as[i] (List.getElem?_eq_getElem hi')
   obtain ⟨t,rfl⟩:=hkey i k x v e1 e2
   refine k_ ?_
   refine ⟨as[i],_,#[.int (key i) t,x],_,t, ?_,List.mem_append_left _ (gb.mpr ⟨List.getElem_mem hi',e3⟩),rfl,rfl,rfl⟩
   rw [List.getD_eq_getElem?_getD,List.getElem?_map,List.getElem?_eq_getElem hi']
   rfl
  ·rw [hlen] at hq up
   refine ⟨_,rfl,wpAny_pure ⟨_,rfl,h as q _ c h' tk hl (hG.rise.imp fun z=>Nat.ne_of_lt z) (fun a ha=>⟨Nat.le_of_lt (hG.above a ha),lt a ha⟩) hq up (fun b o e _=>Heap.lt_size (keep b o e)) (fun j a ea=>?_) F' fun p hp=>?_⟩⟩
   ·refine zz fun P_ k_=>?_
    obtain ⟨v,k,x,e1,e2,e3⟩:=hG.pairs j a ea
    refine k_ ?_
    exact ⟨v,k,x,e1,e2,(N' (a,_) (List.mem_cons_of_mem _ (List.mem_append_left _ (gb.mpr ⟨List.mem_of_getElem? ea,e3⟩)))).1⟩
   ·rcases List.mem_cons.mp hp with z | z
    ·rw [z]; exact N' _ List.mem_cons_self
    ·exact N' _ (List.mem_cons_of_mem _ (List.mem_append_right _ z))
end
end SP
namespace L2
open PySem PySem.Spec PyProof.Rows
section
variable {X:Cx} {pins:List (Addr × Obj)} {σ:St} {H:Hp} {s:Shared}
theorem here_of {P:Program} {w:World} {H:Hp} {h:Heap} {a:Addr} {o:HO} (x:ce P w H h a o):∃ u,h.get? a=some u:=by
 match o,x with
 | .lst _,x=>obtain ⟨_,_,_,_,e⟩:=x; exact ⟨_,e⟩
 | .tup _,x=>obtain ⟨_,_,_,u,e,_⟩:=x; exact ⟨u,e⟩
 | .dK _,x=>rcases x with ⟨-,-,-,-,u,-,-,q,-⟩; exact ⟨u,q⟩
 | .dT _,x=>rcases x with ⟨-,-,-,-,u,-,-,q,-⟩; exact ⟨u,q⟩
 | .set _ _,x=>rcases x with ⟨u,-,-,-,q,-⟩; exact ⟨u,q⟩
 | .ins _ _ _,x=>obtain ⟨_,_,_,e,_⟩:=x; exact ⟨_,e⟩
 | .own _,x=>exact x
 | .xd _,x=>rcases x with ⟨-,⟨u,-,-,q,-⟩,-⟩; exact ⟨u,q⟩
 | .rng _ _,x=>exact ⟨_,x.choose_spec.choose_spec.choose_spec⟩
 | .frz _ _,x=>exact ⟨_,x.1⟩
 | .tbl _,x=>exact ⟨_,x⟩
 | .met _ _,x=>exact ⟨_,x⟩
 | .ext _,x=>exact x.2.1
theorem ns_one {h:Heap} {a:Addr} {m m':Str→Option Value} (x:h.Ns a m) (y:h.Ns a m'):m=m':=by
 refine zz fun P_ k_=>?_
 obtain ⟨o,es,ep,ho,hd,_,hf⟩:=x
 obtain ⟨o',es',ep',ho',hd',_,hf'⟩:=y
 refine k_ ?_
 rw [ho] at ho'
 cases ho'
 rw [hd] at hd'
 cases hd'
 exact funext fun n=>(hf n).symm.trans (hf' n)
theorem Inv.newList {h':Heap} {m:Str→Option Value} {D:Addr} {c:Nat} {ws:List V} {out:List Value} (I:Inv X pins σ H s) (F0:Fr X.base X.env.locals s.heap m) (hD:∀ p∈iO X.base s.heap X.env.locals,p.1 < D)
  (F : Fr X.base X.env.locals h' m) (N : News X.base X.env.locals h' ((D, { cls := .type "list", data := .seq out.toArray c }) :: iO X.base s.heap X.env.locals)) (rv : Vals ws out) (hz : ws.length ≤ sizeLine) :
  H D=none∧Inv X pins σ (upd H D (.lst ws)) { s with heap:=h' }:=by
 have kp:∀ b o,b≠X.env.locals→s.heap.get? b=some o→h'.get? b=some o:=fun b o hb e=>by
  cases q:X.base.get? b with
  | some u =>
   have:=I.bk b u q
   rw [e] at this
   cases this
   exact F.keep b _ q
  | none=>exact (N _ (List.mem_cons_of_mem _ (dO hb q e))).1
 have nD:∀ b o,s.heap.get? b=some o→b≠D:=fun b o e z=>by
  subst z
  have n0:=N _ List.mem_cons_self
  exact Nat.lt_irrefl _ (hD _ (dO n0.2.1 n0.2.2 e))
 have hn:H D=none:=by
  cases q:H D with
  | none=>rfl
  | some u =>
   obtain ⟨o,e⟩:=here_of (I.hok D u q)
   exact absurd rfl (nD D o e)
 have neH:∀ b u,H b=some u→b≠D:=fun b u e z=>by rw [z,hn] at e; cases e
 refine ⟨hn,I.step (ch:=[]) (fun b hb=>nomatch hb) (fun b o h1 _ _ e _=>kp b o h1 e) (fun b o h1 _ _ e _=>⟨o.slots,kp b o h1 e⟩) (fun b o _ e q=>by rw [aj (nD b o e)]; exact q) (fun b o _ e=>?_)
  (fun b xs e=>by rw [aj (neH b _ e)]; exact e) (fun b o u e=>by rw [aj (neH b _ e)]; exact e) (fun b ps e=>⟨#[],by rw [aj (neH b _ e),Array.append_empty]; exact e⟩) (fun m' hm=>?_) (fun b u e=>?_) I.bare⟩
 ·by_cases hb:b=X.env.locals
  ·refine zz fun P_ k_=>?_
   obtain ⟨o',_,_,ho',_⟩:=F.ns
   refine k_ ?_
   exact ⟨o',by rw [hb]; exact ho'⟩
  ·exact ⟨o,kp b o hb e⟩
 ·rw [← ns_one F0.ns hm]
  exact F.ns
 ·by_cases hb:b=D
  ·subst hb
   rw [ao] at e
   cases e
   exact ⟨hz,out,c,rv,(N _ List.mem_cons_self).1⟩
  ·rw [aj hb] at e
   refine (I.hok b u e).stay (fun b' u' _ e'=>?_) (fun b' e'=>by rw [aj (neH b' _ e')]; exact e') fun b' xs e'=>by rw [aj (neH b' _ e')]; exact e'
   refine kp b' u' (fun z=>?_) e'
   rename_i hor
   rcases hor with z' | z'
   ·rw [← z',z,I.free] at e; cases e
   ·rw [z,I.free] at z'; cases z'
end
end L2
namespace Vi
open PySem (Str)
theorem iy (x:D):∀ l:List D,(insT x l).Perm (x::l)
 | []=>List.Perm.refl _
 | y::r=>by
  unfold insT
  split
  ·exact List.Perm.refl _
  ·exact ((iy x r).cons y).trans (List.Perm.swap x y r)
theorem insT_up (x:D):∀ l:List D,l.Pairwise (fun a b=>hkD a≤hkD b)→(insT x l).Pairwise (fun a b=>hkD a≤hkD b)
 | [],_=>by simp [insT]
 | y::r,h=>by
  obtain ⟨h1,h2⟩:=List.pairwise_cons.mp h
  unfold insT
  split
  ·rename_i hxy
   refine List.pairwise_cons.mpr ⟨fun z hz=>?_,h⟩
   rcases List.mem_cons.mp hz with e | hz
   ·rw [e]; exact hxy
   ·exact Int.le_trans hxy (h1 z hz)
  ·rename_i hxy
   refine List.pairwise_cons.mpr ⟨fun z hz=>?_,insT_up x r h2⟩
   rcases List.mem_cons.mp ((iy x r).mem_iff.mp hz) with e | hz
   ·rw [e]; omega
   ·exact h1 z hz
theorem eQ:∀ l:List D,(sortT l).Perm l
 | []=>List.Perm.refl _
 | x::r=>(iy x (sortT r)).trans ((eQ r).cons x)
theorem jE:∀ l:List D,(sortT l).Pairwise (fun a b=>hkD a≤hkD b)
 | []=>List.Pairwise.nil
 | x::r=>insT_up x _ (jE r)
theorem key_inj {a b:D}:∀ {l:List D},(l.map hkD).Nodup→a∈l→b∈l→hkD a=hkD b→a=b
 | [],_,h,_,_=>nomatch h
 | x::r,hn,ha,hb,e=>by
  rw [List.map_cons,List.nodup_cons] at hn
  rcases List.mem_cons.mp ha with ea | ha
  ·rcases List.mem_cons.mp hb with eb | hb
   ·rw [ea,eb]
   ·exact absurd (List.mem_map.mpr ⟨b,hb,by rw [← e,ea]⟩) hn.1
  ·rcases List.mem_cons.mp hb with eb | hb
   ·exact absurd (List.mem_map.mpr ⟨a,ha,by rw [e,eb]⟩) hn.1
   ·exact key_inj hn.2 ha hb e
theorem one_order:∀ {l m:List D},l.Perm m→l.Pairwise (fun a b=>hkD a≤hkD b)→m.Pairwise (fun a b=>hkD a≤hkD b)→(l.map hkD).Nodup→l=m
 | [],m,hp,_,_,_=>by rw [List.nil_perm.mp hp]
 | a::l,[],hp,_,_,_=>absurd (List.perm_nil.mp hp) (by simp)
 | a::l,b::m,hp,h1,h2,hn=>by
  obtain ⟨p1,p2⟩:=List.pairwise_cons.mp h1
  obtain ⟨q1,q2⟩:=List.pairwise_cons.mp h2
  have hb:b∈a::l:=hp.mem_iff.mpr List.mem_cons_self
  have ha:a∈b::m:=hp.mem_iff.mp List.mem_cons_self
  have e1:hkD a≤hkD b:=by
   rcases List.mem_cons.mp hb with z | z
   ·rw [z]; exact Int.le_refl _
   ·exact p1 b z
  have e2:hkD b≤hkD a:=by
   rcases List.mem_cons.mp ha with z | z
   ·rw [z]; exact Int.le_refl _
   ·exact q1 a z
  have e:=key_inj hn List.mem_cons_self hb (Int.le_antisymm e1 e2)
  subst e
  rw [List.map_cons,List.nodup_cons] at hn
  rw [one_order (List.Perm.cons_inv hp) p2 q2 hn.2]
theorem jF {l m:List D} (hp:m.Perm l) (hs:m.Pairwise (fun a b=>hkD a≤hkD b)) (hn:(l.map hkD).Nodup):m=sortT l :=
 one_order (hp.trans (eQ l).symm) hs (jE l) (((hp.map hkD).nodup_iff).mpr hn)
end Vi
namespace Vi
open PySem PySem.Spec PyProof.Rows L2
section
variable {X:Cx} {cl:Nat→Addr}
theorem repL_at {H:Hp}:∀ {l:List D} {vs:List V} {i:Nat},RepL cl H l vs []→i < l.length→Rep cl H (l.getD i .non) (vs.getD i .non) []
 | [],_,_,_,h=>absurd h (Nat.not_lt_zero _)
 | d::l,vs,i,r,h=>by
  unfold RepL at r
  refine zz fun P_ k_=>?_
  obtain ⟨v,vr,f,g,rfl,ef,r1,r2⟩:=r
  have ef:f=[]∧g=[]:=by simpa using ef.symm
  obtain ⟨rfl,rfl⟩:=ef
  refine k_ ?_
  cases i with
  | zero=>exact r1
  | succ i =>
   have:=repL_at (i:=i) r2 (by simpa using h)
   simpa using this
theorem g8 {H:Hp} {l:List D} {vs:List V} (r:RepL cl H l vs []):∀ js:List Nat,(∀ j∈js,j < l.length)→RepL cl H (js.map fun j=>l.getD j .non) (js.map fun j=>vs.getD j .non) []
 | [],_=>⟨rfl,rfl⟩
 | j::js,h=>by
  rw [List.map_cons,List.map_cons]
  unfold RepL
  exact ⟨_,_,[],[],rfl,rfl,repL_at r (h j List.mem_cons_self),g8 r js fun i hi=>h i (List.mem_cons_of_mem _ hi)⟩
theorem fW:∀ {vs:List V} {its:List Value} {i:Nat},Vals vs its→i < vs.length→RelV (vs.getD i .non) (its.getD i Value.none)
 | _,_,_,.nil,h=>absurd h (Nat.not_lt_zero _)
 | _,_,0,.cons r _,_=>r
 | _,_,i+1,.cons _ t,h=>by
  have:=fW (i:=i) t (by simpa using h)
  simpa using this
theorem vals_pick {vs:List V} {its:List Value} (r:Vals vs its):∀ js:List Nat,(∀ j∈js,j < vs.length)→Vals (js.map fun j=>vs.getD j .non) (js.map fun j=>its.getD j Value.none)
 | [],_=>.nil
 | j::js,h=>.cons (fW r (h j List.mem_cons_self)) (vals_pick r js fun i hi=>h i (List.mem_cons_of_mem _ hi))
theorem range_getD {α:Type} (l:List α) (d:α):((List.range l.length).map fun j=>l.getD j d)=l:=by
 refine List.ext_getElem (by simp) fun i h1 h2=>?_
 simp [List.getD_eq_getElem?_getD,List.getElem?_eq_getElem h2]
theorem pick_perm {l:List D} {q:Array Nat} (hq:SP.In l.length q):(q.toList.map fun j=>l.getD j D.non).Perm l:=by
 have:q.toList.Perm (List.range l.length):=by simpa [SP.In,Array.perm_iff_toList_perm] using hq
 have h2:=this.map fun j=>l.getD j D.non
 rwa [range_getD] at h2
theorem pick_up {l:List D} {q:Array Nat} (hq:SP.In l.length q) (up:SP.Up (fun j=>hkD (l.getD j .non)) q l.length):(q.toList.map fun j=>l.getD j D.non).Pairwise (fun a b=>hkD a≤hkD b):=by
 rw [List.pairwise_iff_getElem]
 intro i j hi hj hij
 have hz:=hq.size
 have hi':i < q.size:=by simpa using hi
 have hj':j < q.size:=by simpa using hj
 have:=up.le (i:=i) (j:=j) (by exact Nat.le_of_lt ‹_›) (by omega)
 unfold SP.Kp at this
 rw [Array.getD_eq_getD_getElem?,Array.getD_eq_getD_getElem?,Array.getElem?_eq_getElem hi',Array.getElem?_eq_getElem hj'] at this
 simpa using this
theorem head_of {d:D} {k:Int} (h:headD d=some k):∃ r,d=.tup (.int k::r):=by
 cases d with
 | tup l =>
  match l,h with
  | x::r,h =>
   cases x with
   | int i=>(first | injection h; done | (injection h with h; subst h)); exact ⟨r,rfl⟩
   | _=>injection h
 | _=>injection h
theorem call_sortedT {l : List D} (hd : ∀ d ∈ l, ∃ k, headD d = some k) (him : immL l = true) (hn : (l.map hkD).Nodup) (h2 : 2 ≤ l.length) (h64 : l.length < 64) : BiR X cl (.builtin "sorted") [.lst l] (.lst (sortT l)) := by
 intro pins s σ H xs us Q I r hh_
 refine zz fun P_ k_=>?_
 obtain ⟨fp,rl,q⟩:=hh_
 have hline:(64:Nat)≤sizeLine:=by decide
 obtain ⟨x,f,ex,rx⟩:=rep1 rl
 obtain ⟨p,vs,g,e,hs,hl⟩:=bX (K:=X.K) rx
 refine k_ ?_
 have eg:=hl.imm him
 subst ex; subst e; subst eg
 obtain ⟨u,rfl,rx'⟩:=gT r
 (first | injection rx'; done | subst rx')
 refine zz fun P_ k_=>?_
 obtain ⟨its,r',pl,hz⟩:=I.list hs
 obtain ⟨m,F⟩:=I.fr
 refine k_ ?_
 have e1:vs.length=l.length:=hl.len
 have e2:its.length=l.length:=r'.length.symm.trans e1
 have mem:∀ i,i < l.length→l.getD i .non∈l:=fun i hi=>by
  rw [List.getD_eq_getElem?_getD,List.getElem?_eq_getElem hi]
  exact List.getElem_mem hi
 refine SP.sorted_tups (key:=fun j=>hkD (l.getD j .non)) F jV pl.isList (by omega) (by omega) (fun i hi=>?_) (fun i j hi hj e=>?_) fun q0 D' h' c hq up hD F' N'=>?_
 ·have hi:i < l.length:=by omega
  refine zz fun P_ k_=>?_
  obtain ⟨k,hk⟩:=hd _ (mem i hi)
  obtain ⟨rest,er⟩:=head_of hk
  have r1:=repL_at hl hi
  have ru:=fW r' (i:=i) (by omega)
  have hkk:hkD (l.getD i .non)=k:=by unfold hkD; rw [hk]; rfl
  rw [er] at r1
  have r1':=r1
  unfold Rep at r1'
  obtain ⟨a0,ws,ea,hH,_⟩:=r1'
  obtain ⟨a,ws2,its2,eu,ev,⟨o,ho,hoc,n,hod⟩,vv,rr⟩:=gU I r1 ru
  refine k_ ?_
  have ea':a0=a:=by rw [ea] at ev; injection ev
  subst ea'
  unfold RepL at rr
  refine zz fun P_ k_=>?_
  obtain ⟨v0,vr,f1,g1,ew,_,rv0,_⟩:=rr
  refine k_ ?_
  subst ew
  rw [rv0.1] at vv
  cases vv with
  | @cons _ u0 _ ir ru0 _ =>
  obtain ⟨t,rfl⟩:=ru0
  refine ⟨a0,o,_,n,t,eu,dO (fun z=>?_) ?_ ho,hoc,hod, ?_⟩
  ·rw [z,I.free] at hH; injection hH
  ·cases qb:X.base.get? a0 with
   | none=>rfl
   | some ob =>
    have:=(I.bs a0 ob qb).2
    rw [hH] at this; injection this
  ·show _=some (Value.int (hkD (l.getD i D.non)) t)
   rw [hkk]
   rfl
 ·have hi:i < l.length:=by omega
  have hj:j < l.length:=by omega
  have e0:(l.map hkD)[i]'(by simpa using hi)=(l.map hkD)[j]'(by simpa using hj):=by
   simpa [List.getD_eq_getElem?_getD,List.getElem?_eq_getElem hi,List.getElem?_eq_getElem hj] using e
  exact (List.getElem_inj hn).mp e0
 ·rw [e2] at hq up
  have lt:∀ j∈q0.toList,j < l.length:=fun j hj=>by
   have hm:=hq.mem_iff.mp (Array.mem_toList_iff.mp hj)
   simpa using hm
  have em:=jF (pick_perm hq) (pick_up hq up) hn
  have rv:=vals_pick r' q0.toList fun j hj=>by rw [e1]; exact lt j hj
  have hzz:(q0.toList.map fun j=>vs.getD j V.non).length≤sizeLine:=by
   rw [List.length_map,Array.length_toList,hq.size]; omega
  obtain ⟨hnew,I'⟩:=I.newList F hD F' N' rv hzz
  have sn:=Same.new (o:=HO.lst (q0.toList.map fun j=>vs.getD j V.non)) hnew
  refine ⟨.ref D',_,I',rfl,q (.ref D') _ [D'] sn ?_ (cz.one hnew (ii (by intro _ _ z; injection z)))⟩
  unfold Rep
  have rp:=(g8 hl q0.toList lt).same sn
  rw [em] at rp
  exact ⟨D',_,[],rfl,rfl,rp,.inl ao⟩
end
end Vi
namespace L2
open PySem PySem.Spec PyProof.Rows
section
variable {X:Cx} {pins:List (Addr × Obj)} {σ:St} {H:Hp} {s:Shared}
theorem Inv.grow {h':Heap} {m:Str→Option Value} {H':Hp} (I:Inv X pins σ H s) (F0:Fr X.base X.env.locals s.heap m) (F:Fr X.base X.env.locals h' m) (kp:∀ b o,b≠X.env.locals→s.heap.get? b=some o→h'.get? b=some o)
  (sub:∀ b u,H b=some u→H' b=some u) (new:∀ b u,H' b=some u→H b=some u∨(s.heap.get? b=none∧ce X.prog X.w H' h' b u)):Inv X pins σ H' { s with heap:=h' }:=by
 refine I.step (ch:=[]) (fun b hb=>nomatch hb) (fun b o h1 _ _ e _=>kp b o h1 e) (fun b o h1 _ _ e _=>⟨o.slots,kp b o h1 e⟩) (fun b o _ e q=>?_) (fun b o _ e=>?_)
  (fun b xs e=>sub b _ e) (fun b o u e=>sub b _ e) (fun b ps e=>⟨#[],by rw [Array.append_empty]; exact sub b _ e⟩) (fun m' hm=>?_) (fun b u e=>?_) I.bare
 ·cases z:H' b with
  | none=>rfl
  | some u =>
   rcases new b u z with w | ⟨w,_⟩
   ·rw [q] at w; injection w
   ·rw [e] at w; injection w
 ·by_cases hb:b=X.env.locals
  ·refine zz fun P_ k_=>?_
   obtain ⟨o',_,_,ho',_⟩:=F.ns
   refine k_ ?_
   exact ⟨o',by rw [hb]; exact ho'⟩
  ·exact ⟨o,kp b o hb e⟩
 ·rw [← ns_one F0.ns hm]
  exact F.ns
 ·rcases new b u e with w | ⟨_,w⟩
  ·refine (I.hok b u w).stay (fun b' u' hor e'=>?_) (fun b' e'=>sub b' _ e') fun b' xs e'=>sub b' _ e'
   refine kp b' u' (fun z=>?_) e'
   rcases hor with z' | z'
   ·rw [← z',z,I.free] at w; injection w
   ·rw [z,I.free] at z'; injection z'
  ·exact w
end
end L2
namespace L2
open PySem PySem.Spec PyProof.Rows
noncomputable def isView (D a : Addr) : Heap → Prop := fun h => h.get? D = some { cls := .type "dict_items", data := .fields #[.ref a] }
noncomputable def keyI (kvs:List (Key × V)) (i:Nat):Int:=match kvs[i]? with
 | some (.inl k,_)=>k
 | _=>0
theorem KV.at {kvs:List (Key × V)} {vs:List (Key × Value)} (r:KV kvs vs) {j:Nat} {k:Key} {x:Value} (h:vs[j]?=some (k,x)):∃ v,kvs[j]?=some (k,v)∧RelV v x:=by
 unfold KV at r
 induction r generalizing j with
 | nil=>injection h
 | cons p _ ih =>
  cases j with
  | zero=>injection h with h; subst h; exact ⟨_,congrArg some (Prod.ext p.1 rfl),p.2⟩
  | succ j=>exact ih h
theorem vals_map {f:Nat→V} {g:Nat→Value} (h:∀ i,RelV (f i) (g i)):∀ l:List Nat,Vals (l.map f) (l.map g)
 | []=>.nil
 | i::l=>.cons (h i) (vals_map h l)
theorem ref_getD {as:List Addr} (i:Nat):RelV ((as.map V.ref).getD i .non) ((as.map Value.ref).getD i Value.none):=by
 rw [List.getD_eq_getElem?_getD,List.getD_eq_getElem?_getD,List.getElem?_map,List.getElem?_map]
 cases as[i]? with
 | none=>exact rfl
 | some a=>exact rfl
section
variable {X:Cx}
noncomputable def rSortI:List V→Hp→VK→Prop:=fun xs H Q=>∃ D a kvs,xs=[.ref D]∧H D=some (.ext (isView D a))∧Rd H a (.dK kvs)∧kvs.length < 64∧(∀ kv∈kvs,∃ i,kv.1=Sum.inl i) ∧
 ∀ (as:List Addr) (q:Array Nat) (B:Addr) (H':Hp),as.length=kvs.length→SP.In kvs.length q→SP.Up (keyI kvs) q kvs.length→Same H H'→H B=none→(∀ (j:Nat) a kv,as[j]?=some a→kvs[j]?=some kv→H' a=some (.tup [kV kv.1,kv.2])) →
  H' B=some (.lst (q.toList.map fun i=>(as.map V.ref).getD i .non))→(∀ b,H b=none→(∀ o,H' b=some o→b=B∨b∈as))→Q (.ref B) H'
theorem call_sortI (hc : X.calm = true) : CallR X (.builtin "sorted") rSortI := by
 intro pins s σ H xs us Q I rv hh_
 refine zz fun P_ k_=>?_
 obtain ⟨D,a,kvs,ex,hD,hd,h64,hint,q⟩:=hh_
 refine k_ ?_
 subst ex
 obtain ⟨u,eu,ru⟩:=gT rv
 subst eu
 have ru:u=.ref D:=ru
 subst ru
 refine zz fun P_ k_=>?_
 obtain ⟨hz,hS,vs,kv,hO⟩:=gh I.hok hd
 have hx:isView D a s.heap∧_∧_:=I.hok D _ hD
 have hv:s.heap.IsItemsView D a:=⟨_,hx.1,rfl,rfl⟩
 obtain ⟨m,F⟩:=I.fr
 obtain ⟨o,es,ep,ho,hex,hdat,hks,hps,hnd⟩:=hO
 refine k_ ?_
 have ke:=kv.keys
 have le:=kv.length
 refine SP.sorted_items (key:=keyI kvs) (knd:=bp X.prog X.w) (kvs:=vs) (ep:=ep) (I.ok.hd hc) F jV hv ⟨o,es,ho,hex,hdat,hks,hps,hnd⟩ (by rw [← le]; exact h64) (fun i k x v e1 e2=>?_) (fun i j hi hj e=>?_) fun as qq B c h' tk hal hnda hfr hin up hB htup F' N'=>?_
 ·refine zz fun P_ k_=>?_
  obtain ⟨v',e3,_⟩:=kv.at e1
  obtain ⟨n,en⟩:=hint _ (List.mem_of_getElem? e3)
  refine k_ ?_
  have en:k=Sum.inl n:=en
  subst en
  obtain ⟨t,et⟩:=Value.isInt_shape (k:=n) (v:=v) e2
  refine ⟨t,et.trans ?_⟩
  unfold keyI
  rw [e3]
 ·rw [← le] at hi hj
  obtain ⟨n1,f1⟩:=hint _ (List.getElem_mem hi)
  obtain ⟨n2,f2⟩:=hint _ (List.getElem_mem hj)
  unfold keyI at e
  rw [List.getElem?_eq_getElem hi,List.getElem?_eq_getElem hj] at e
  have g1:kvs[i]=(Sum.inl n1,kvs[i].2):=Prod.ext f1 rfl
  have g2:kvs[j]=(Sum.inl n2,kvs[j].2):=Prod.ext f2 rfl
  rw [g1,g2] at e
  have e:n1=n2:=e
  rw [← ke] at hnd
  have hi':i < (kvs.map (·.1)).length:=by rw [List.length_map]; exact hi
  have hj':j < (kvs.map (·.1)).length:=by rw [List.length_map]; exact hj
  refine (List.getElem_inj (h₀:=hi') (h₁:=hj') hnd).mp ?_
  rw [List.getElem_map,List.getElem_map,f1,f2,e]
 ·rw [← le] at hal hin up
  let ws:List V:=qq.toList.map fun i=>(as.map V.ref).getD i .non
  let tp:Addr→List V:=fun b=>match kvs[as.idxOf b]? with | some kv=>[kV kv.1,kv.2] | none=>[]
  let H':Hp:=fun b=>if b=B then some (.lst ws) else if b∈as then some (.tup (tp b)) else H b
  have nB:=N' _ List.mem_cons_self
  have gB:s.heap.get? B=none:=by
   cases e:s.heap.get? B with
   | none=>rfl
   | some o=>exact absurd (hB B o e nB.2.1) (Nat.lt_irrefl _)
  have ga:∀ b∈as,s.heap.get? b=none:=fun b hb=>Heap.get?_none_of_le (hfr b hb).1
  have free:∀ {b},s.heap.get? b=none→H b=none:=fun {b} hb=>by
   cases e:H b with
   | none=>rfl
   | some u =>
    obtain ⟨o,eo⟩:=here_of (I.hok b u e)
    rw [hb] at eo
    injection eo
  have hneB:∀ b∈as,b≠B:=fun b hb=>Nat.ne_of_lt (hfr b hb).2
  have hB':H' B=some (.lst ws):=if_pos rfl
  have hA':∀ b∈as,H' b=some (.tup (tp b)):=fun b hb=>(if_neg (hneB b hb)).trans (if_pos hb)
  have hO':∀ b,b≠B→b∉as→H' b=H b:=fun b h1 h2=>(if_neg h1).trans (if_neg h2)
  have sub:Same H H':=fun b u e=>(hO' b (fun z=>by rw [z,free gB] at e; injection e) (fun z=>by rw [free (ga b z)] at e; injection e)).trans e
  have tpj:∀ (j:Nat) b kv,as[j]?=some b→kvs[j]?=some kv→tp b=[kV kv.1,kv.2]:=fun j b kv e1 e2=>by
   obtain ⟨hj,ej⟩:=List.getElem?_eq_some_iff.mp e1
   show (match kvs[as.idxOf b]? with | some kv=>[kV kv.1,kv.2] | none=>[])=_
   rw [← ej,hnda.idxOf_getElem,e2]
  have kp:∀ b o,b≠X.env.locals→s.heap.get? b=some o→h'.get? b=some o:=fun b o hb e=>by
   cases q:X.base.get? b with
   | some u =>
    have:=I.bk b u q
    rw [e] at this
    injection this with this
    rw [this]
    exact F'.keep b _ q
   | none=>exact (N' _ (List.mem_cons_of_mem _ (dO hb q e))).1
  have inv:Inv X pins σ H' { s with heap:=h' }:=by
   refine I.grow F F' kp sub fun b u e=>?_
   by_cases b1:b=B
   ·subst b1
    rw [hB'] at e
    injection e with e
    subst e
    refine .inr ⟨gB, ?_,_,c,vals_map ref_getD qq.toList,nB.1⟩
    rw [List.length_map,Array.length_toList,hin.size,sizeLine_eq]
    assumption
   ·by_cases b2:b∈as
    ·rw [hA' b b2] at e
     injection e with e
     subst e
     refine zz fun P_ k_=>?_
     obtain ⟨j,hj,ej⟩:=List.getElem_of_mem b2
     have e1:as[j]?=some b:=List.getElem?_eq_some_iff.mpr ⟨hj,ej⟩
     obtain ⟨v,k,x,e2,e3,e4⟩:=htup j b e1
     obtain ⟨v',e5,rx⟩:=kv.at e2
     obtain ⟨n,en⟩:=hint _ (List.mem_of_getElem? e5)
     refine k_ ?_
     have en:k=Sum.inl n:=en
     subst en
     obtain ⟨t,et⟩:=Value.isInt_shape (k:=n) (v:=v) e3
     rw [tpj j b _ e1 e5]
     refine .inr ⟨ga b b2,by show 2≤sizeLine; decide,[v,x],.cons ⟨t,et⟩ (.cons rx .nil),_,e4,rfl,_,rfl⟩
    ·rw [hO' b b1 b2] at e
     exact .inl e
  refine ⟨.ref B,H',inv.tok tk,rfl,q as qq B H' hal hin up sub (free gB) (fun j b kv e1 e2=>?_) hB' fun b hb o e=>?_⟩
  ·rw [hA' b (List.mem_of_getElem? e1),tpj j b kv e1 e2]
  ·by_cases b1:b=B
   ·exact .inl b1
   ·by_cases b2:b∈as
    ·exact .inr b2
    ·rw [hO' b b1 b2,hb] at e; injection e
end
end L2
namespace L2
open PySem PySem.Spec PyProof.Rows
section
variable {X:Cx}
noncomputable def rItems:V→List V→Hp→VK→Prop:=fun x xs H Q=>∃ a kvs,x=.ref a∧xs=[]∧Rd H a (.dK kvs)∧∀ D,H D=none→Q (.ref D) (upd H D (.ext (isView D a)))
theorem mt_items : MtR X "dict.items" rItems := by
 intro pins s σ H x xs v us Q I r rv hh_
 refine zz fun P_ k_=>?_
 obtain ⟨a,kvs,ex,exs,hd,q⟩:=hh_
 refine k_ ?_
 subst ex; subst exs
 have r:v=.ref a:=r
 subst r
 cases rv
 refine zz fun P_ k_=>?_
 obtain ⟨hz,hS,vs,kv,hO⟩:=gh I.hok hd
 refine k_ ?_
 refine call_meetsIn PySem.F.slot_dict_items hO.typeIs PySem.F.entry_dict_items (PySem.F.args_dict_items_1 _) (meets_dict_items (bp X.prog X.w) a hS) ⟨⟨vs,hO⟩, ?_⟩
 have I' : Inv X pins σ (upd H s.heap.objs.size (.ext (isView s.heap.objs.size a))) { s with heap := s.heap.push { cls := .type "dict_items", data := .fields #[.ref a] } } :=
  I.laid (t':=s.toks) (fun b u e=>Heap.get?_push_of_some _ e) (Nat.le_refl _) ⟨Heap.get?_push_size _ rfl,⟨_,Heap.get?_push_size _ rfl⟩,fun h1 h2 e k=>k _ e⟩
 exact ⟨.ref s.heap.objs.size,_,I',rfl,q _ (I.hok.fresh (Nat.le_refl _))⟩
end
end L2
namespace Vi
open PySem PySem.Spec PyProof.Rows L2
section
variable {X:Cx} {cl:Nat→Addr} {M:Tab}
theorem key_repK {H:Hp} (k:Key):Rep cl H (keyD k) (kV k) []:=by
 cases k with
 | inl i=>exact ⟨rfl,rfl⟩
 | inr x=>exact ⟨rfl,rfl⟩
theorem items_rep {H:Hp}:∀ {l:List (Key × D)} {kvs:List (Key × V)} {as:List Addr},l.map (·.1)=kvs.map (·.1)→RepL cl H (l.map (·.2)) (kvs.map (·.2)) []→as.length=kvs.length→(∀ (j:Nat) a kv,as[j]?=some a→kvs[j]?=some kv→H a=some (.tup [kV kv.1,kv.2]))→RepL cl H (bE l) (as.map V.ref) []
 | [],[],[],_,_,_,_=>⟨rfl,rfl⟩
 | [],[],_::_,_,_,hl,_=>by injection hl
 | [],_::_,_,e,_,_,_=>by injection e
 | _::_,[],_,e,_,_,_=>by injection e
 | _::_,_::_,[],_,_,hl,_=>by injection hl
 | p::l,q::kvs,a::as,e,r,hl,h=>by
  rw [List.map_cons,List.map_cons] at e r
  injection e with e1 e2
  refine zz fun P_ k_=>?_
  obtain ⟨v,vr,f1,g1,ev,ef,r1,r2⟩:=r
  refine k_ ?_
  injection ev with ev1 ev2
  subst ev1; subst ev2
  obtain ⟨z1,z2⟩:=List.append_eq_nil_iff.mp ef.symm
  subst z1; subst z2
  refine ⟨.ref a,as.map V.ref,[],[],rfl,rfl,⟨a,[kV q.1,q.2],rfl,h 0 a q rfl rfl,kV q.1,[q.2],[],[],rfl,rfl, ?_,q.2,[],[],[],rfl,rfl,r1,rfl,rfl⟩,items_rep e2 r2 (Nat.succ.inj hl) fun j b kv h1 h2=>h (j+1) b kv h1 h2⟩
  show Rep cl H (keyD p.1) _ _
  rw [e1]
  exact key_repK _
theorem up_congr {k1 k2:Nat→Int} {q:Array Nat} {n:Nat} (hq:SP.In n q) (h:∀ j,j < n→k1 j=k2 j) (u:SP.Up k1 q n):SP.Up k2 q n:=fun i h1 h2=>by
 have:=u i h1 h2
 unfold SP.Kp at this ⊢
 rw [h _ (hq.lt (Nat.lt_of_le_of_lt (Nat.zero_le _) h2) _),h _ (hq.lt (Nat.lt_of_le_of_lt (Nat.zero_le _) h2) _)] at this
 exact this
theorem items_key {l:List (Key × D)} {kvs:List (Key × V)} (e:l.map (·.1)=kvs.map (·.1)) (hi:∀ d∈bE l,(headD d).isSome=true):(∀ kv∈kvs,∃ i,kv.1=Sum.inl i)∧∀ j,j < kvs.length→keyI kvs j=hkD ((bE l).getD j .non):=by
 have len:l.length=kvs.length:=by have:=congrArg List.length e; rwa [List.length_map,List.length_map] at this
 have one:∀ j (h:j < kvs.length),∃ i,kvs[j].1=Sum.inl i∧hkD ((bE l).getD j .non)=i:=fun j h=>by
  have hj:j < l.length:=by rw [len]; exact h
  have e1:l[j].1=kvs[j].1:=by
   have:(l.map (·.1))[j]?=(kvs.map (·.1))[j]?:=by rw [e]
   rw [List.getElem?_map,List.getElem?_map,List.getElem?_eq_getElem hj,List.getElem?_eq_getElem h] at this
   exact Option.some.inj this
  have e2:(bE l).getD j .non=.tup [keyD l[j].1,l[j].2]:=by
   unfold bE
   rw [List.getD_eq_getElem?_getD,List.getElem?_map,List.getElem?_eq_getElem hj]
   rfl
  have m:(bE l).getD j .non∈bE l:=by
   unfold bE
   rw [List.getD_eq_getElem?_getD,List.getElem?_map,List.getElem?_eq_getElem hj]
   exact List.mem_map.mpr ⟨l[j],List.getElem_mem hj,rfl⟩
  have hs:=hi _ m
  rw [e2,e1] at hs
  rw [e2,e1]
  cases k:kvs[j].1 with
  | inl i=>exact ⟨i,rfl,rfl⟩
  | inr x=>rw [k] at hs; injection hs
 refine ⟨fun kv hk=>?_,fun j h=>?_⟩
 ·refine zz fun P_ k_=>?_
  obtain ⟨j,hj,ej⟩:=List.getElem_of_mem hk
  obtain ⟨i,h1,_⟩:=one j hj
  refine k_ ?_
  exact ⟨i,by rw [← ej]; exact h1⟩
 ·obtain ⟨i,h1,h2⟩:=one j h
  rw [h2]
  unfold keyI
  rw [List.getElem?_eq_getElem h,show kvs[j]=(Sum.inl i,kvs[j].2) from Prod.ext h1 rfl]
theorem pe_items {o : Expr} {to : TE} {apos cpos : Pos} (ho : PE X o to) (hbase : attributeBase o "items" X.env (eval o X.env) = eval o X.env) (hline : (apos.endLine == cpos.line) = true) : PE X (.Call (.Attribute o "items" apos) [] [] cpos) (fun σ H Q => to σ H fun x H1 => rItems x [] H1 Q) := by
 intro pins s σ H Q I h
 refine wpAny_Call_method0_late hbase hline (thn (ho pins s σ H _ I h) fun v s1 hh_=>?_)
 refine zz fun P_ k_=>?_
 obtain ⟨x,H1,I1,r1,q1⟩:=hh_
 have q2:=q1
 obtain ⟨a,kvs,ex,_,hd,_⟩:=q2
 refine k_ ?_
 subst ex
 have r2:v=.ref a:=r1
 subst r2
 refine zz fun P_ k_=>?_
 obtain ⟨_,hS,vs,kv,hO⟩:=gh I1.hok hd
 have ty:=hO.typeIs
 obtain ⟨ob,es,ep,ho',hex,_⟩:=hO
 refine k_ ?_
 exact ⟨"dict", "dict.items", PySem.F.plainAttrs_dict, PySem.F.slot_dict_items, PySem.F.type_dict_items, ty, fun b e => ⟨ob, by injection e with e; rw [← e]; exact ho', hex.2.1⟩, Calls.callWith_builtin rfl (PySem.evalArgs_none (mt_items pins s1 σ H1 (.ref a) [] (.ref a) [] Q I1 r1 .nil q1))⟩
end
end Vi
namespace Vi
open PySem PySem.Spec PyProof.Rows L2
section
variable {X:Cx} {cl:Nat→Addr} {M:Tab} {o:Expr} {pos p apos cpos:Pos} {o':E}
theorem imm_items {l:List (Key × D)} (h:immL (bE l)=true):immL (l.map (·.2))=true:=dh.mpr fun d hd=>by
 obtain ⟨kv,hk,e⟩:=List.mem_map.mp hd
 have:=dh.mp h _ (List.mem_map.mpr ⟨kv,hk,rfl⟩)
 have:=dh.mp (show immL [keyD kv.1,kv.2]=true from this) _ (List.mem_cons_of_mem _ List.mem_cons_self)
 rw [← e]; exact this
theorem g_sortI {x : Str} (hc : X.calm = true) (hg : Gl X x) (hm : X.mg x = none) (hv : bootBuiltins x = some (.builtin "sorted")) (hn : x ≠ "__name__") (hdb : (x == ("__debug__" : Str)) = false) (hbase : attributeBase o "items" X.env (eval o X.env) = eval o X.env) (hline : (apos.endLine == cpos.line) = true)
  (ho : GE X cl M o o') : GE X cl M (.Call (.Name x p) [.Call (.Attribute o "items" apos) [] [] cpos] [] pos) (.bi .sortI [o']) := fun ρ d k h => by
 rw [rE_bi] at h
 refine zz fun P_ k_=>?_
 obtain ⟨⟨xs,ks⟩,g2,h⟩:=R.bind_ok h
 obtain ⟨r,g3,h⟩:=R.bind_ok h
 refine k_ ?_
 simp only [R.pure_eq,R.ok.injEq,Prod.mk.injEq] at h; obtain ⟨rfl,rfl⟩:=h
 rw [eh] at g2
 refine zz fun P_ k_=>?_
 obtain ⟨⟨w,kw⟩,g4,g2⟩:=R.bind_ok g2
 simp only [h9,eh,R.ok_bind,R.pure_eq,R.ok.injEq,Prod.mk.injEq] at g2
 obtain ⟨rfl,_⟩:=g2
 have hw:∃ l,w=.dK l:=by
  cases w with
  | dK l=>exact ⟨l,rfl⟩
  | _=>cases g3
 obtain ⟨l,ew⟩:=hw
 refine k_ ?_
 subst ew
 rw [biD_22] at g3
 by_cases ht:d8 (bE l)
 case neg=>rw [if_neg ht] at g3; cases g3
 rw [if_pos ht] at g3
 injection g3 with g3
 subst g3
 refine zz fun P_ k_=>?_
 obtain ⟨t1,t2,t3,t4⟩:=ht
 refine k_ ?_
 refine bj (jQ (call_sortI hc) hg hm hv (bI (pe_items (ho ρ _ kw g4) hbase hline) de rfl) hn hdb rfl rfl) fun σ H Q ⟨H0,F,S,q⟩=>⟨H0,F,S,fun v H1 fp s1 r1 _=>?_⟩
 unfold Rep at r1
 refine zz fun P_ k_=>?_
 obtain ⟨a,f,kvs,ev,_,hd,hk,rm⟩:=r1
 refine k_ ?_
 have rl:=RepM.l.mp rm
 have ef:=rl.imm (imm_items t2)
 subst ef
 have len:(bE l).length=kvs.length:=by
  have:=congrArg List.length hk
  rw [List.length_map,List.length_map] at this
  unfold bE
  rw [List.length_map,this]
 obtain ⟨k1,k2⟩:=items_key hk t1
 refine ⟨a,kvs,ev,rfl,hd,fun B0 hB0=>⟨B0,a,kvs,rfl,ao, ?_,by rw [← len]; exact t4,k1,fun as q0 B H' hal hin up sub hB htup hBl _=>?_⟩⟩
 ·rcases hd with z | ⟨o,z⟩
  ·exact .inl (Same.new hB0 _ _ z)
  ·exact .inr ⟨o,Same.new hB0 _ _ z⟩
 ·have sn:Same H1 H':=(Same.new hB0).trans sub
  have hq:SP.In (bE l).length q0:=by rw [len]; exact hin
  have up':SP.Up (fun j=>hkD ((bE l).getD j .non)) q0 (bE l).length:=by
   rw [len]
   exact up_congr hin k2 up
  have lt:∀ j∈q0.toList,j < (bE l).length:=fun j hj=>by
   have hm:=hq.mem_iff.mp (Array.mem_toList_iff.mp hj)
   simpa using hm
  have em:=jF (pick_perm hq) (pick_up hq up') t3
  have rp:=g8 (items_rep hk (rl.same sn) hal htup) q0.toList lt
  rw [em] at rp
  refine q (.ref B) H' [B] (s1.trans sn) ?_ (cz.kd (s1.trans (Same.new hB0)) (cz.one hB fun ob u z=>by rw [hBl] at z; cases z))
  unfold Rep
  exact ⟨B,_,[],rfl,rfl,rp,.inl hBl⟩
end
end Vi
namespace Vi
open PySem PySem.Spec PyProof.Rows L2
section
variable {X:Cx} {cl:Nat→Addr}
theorem sortT_few:∀ {l:List D},l.length < 2→sortT l=l
 | [],_=>rfl
 | [_],_=>rfl
 | _::_::_,h=>absurd h (by simp)
theorem call_sortedS {l : List D} (him : immL l = true) (h2 : l.length < 2) : BiR X cl (.builtin "sorted") [.lst l] (.lst l) := by
 intro pins s σ H xs us Q I r hh_
 refine zz fun P_ k_=>?_
 obtain ⟨fp,rl,q⟩:=hh_
 obtain ⟨x,f,ex,rx⟩:=rep1 rl
 obtain ⟨p,vs,g,e,hs,hl⟩:=bX (K:=X.K) rx
 refine k_ ?_
 have eg:=hl.imm him
 subst ex; subst e; subst eg
 obtain ⟨u,rfl,rx'⟩:=gT r
 cases rx'
 refine zz fun P_ k_=>?_
 obtain ⟨its,r',pl,hz⟩:=I.list hs
 obtain ⟨m,F⟩:=I.fr
 refine k_ ?_
 have e1:vs.length=l.length:=hl.len
 have e2:its.length=l.length:=r'.length.symm.trans e1
 refine SP.sorted_small F jV pl.isList (by rw [e2]; exact h2) fun D' h' c hD F' N'=>?_
 obtain ⟨hnew,I'⟩:=I.newList F hD F' N' r' hz
 have sn:=Same.new (o:=HO.lst vs) hnew
 refine ⟨.ref D',_,I',rfl,q (.ref D') _ [D'] sn ?_ (cz.one hnew (ii (by intro _ _ z; cases z)))⟩
 unfold Rep
 exact ⟨D',_,[],rfl,rfl,hl.same sn,.inl ao⟩
theorem gS {ds : List D} {z : D} (h : biD .sortT ds = .ok z) : BiR X cl (.builtin "sorted") ds z := by
 obtain ⟨d,ed⟩:∃ l,ds=[.lst l]:=by
  cases ds with
  | nil=>cases h
  | cons d r =>
   cases r with
   | nil=>cases d with
    | lst l=>exact ⟨l,rfl⟩
    | _=>cases h
   | cons _ _=>cases d <;> cases h
 subst ed
 rw [biD_21] at h
 by_cases ht:d8 d
 case neg=>rw [if_neg ht] at h; cases h
 rw [if_pos ht] at h
 injection h with h
 subst h
 refine zz fun P_ k_=>?_
 obtain ⟨t1,t2,t3,t4⟩:=ht
 refine k_ ?_
 rcases Nat.lt_or_ge d.length 2 with h2 | h2
 ·rw [sortT_few h2]
  exact call_sortedS t2 h2
 ·exact call_sortedT (fun x hx=>Option.isSome_iff_exists.mp (t1 x hx)) t2 t3 h2 t4
end
end Vi
namespace Vi
open PySem PySem.Spec PyProof.Rows L2
section
variable {X:Cx} {cl:Nat→Addr} {M:Tab}
end
end Vi
namespace Vi
open PySem PySem.Spec PyProof.Rows L2
section
variable {X:Cx} {cl:Nat→Addr} {M:Tab} {e:Expr} {st:Stmt} {e':E}
end
section
variable {X:Cx} {cl:Nat→Addr} {M:Tab} {o:Expr} {pos apos:Pos} {o':E}
theorem eZ {i lev kk:Nat} {C:Addr} {ps:List Str} {m:Str} {pl:Sem Bool} (L:LnkM X.prog X.w X.K X.mg X.base cl C m lev ps (M.fn i)) (hC:∀ c,cl c=C) (c:Cls X.K C) (hr:Room kk X.A) (hl:lev≤kk)
  (ht:eval (.Call (.Attribute o m apos) [] [] pos) X.env=(do
   let ov ← eval o X.env
   standAt apos.atName
   let (f,first) ← holding [ov] (getMethod ov m pl)
   callWith pos f first (backTo pos (starEach [] X.env)) (backToKw pos (keywordEach [] X.env))))
  (ho:GE X cl M o o'):GE X cl M (.Call (.Attribute o m apos) [] [] pos) (.meth i m o' []):=fun ρ d k h=>by
 refine zz fun P_ k_=>?_
 obtain ⟨f,fd,F,hm,hb⟩:=L.ex
 rw [rE_meth] at h
 obtain ⟨⟨x,kx⟩,g1,h⟩:=R.bind_ok h
 obtain ⟨⟨xs,ks⟩,g2,h⟩:=R.bind_ok h
 refine k_ ?_
 injection g2 with g2
 injection g2 with g2 _
 subst g2
 cases x with
 | obj ci fs =>
  simp only at h
  by_cases hl':fs.lookup m=none
  case neg=>rw [if_neg hl'] at h; injection h
  rw [if_pos hl'] at h
  obtain ⟨r,g3,h⟩:=R.bind_ok h
  simp only [R.pure_eq,R.ok.injEq,Prod.mk.injEq] at h; obtain ⟨rfl,rfl⟩:=h
  refine bj (pe_meth0 (pl:=pl) (ho ρ _ kx g1) c hm F (hr.mono hl) hb .nil pass0 ht) fun σ H Q ⟨H0,F',S,q⟩=>⟨H0,F',S,fun v H1 fp s1 r1 _=>?_⟩
  have r1':=r1
  refine zz fun P_ k_=>?_
  obtain ⟨a,dx,f0,gs,e1,ef,ha',hd,hn,r0⟩:=r1
  refine k_ ?_
  rw [hC ci] at ha'
  refine ⟨a,dx,gs,e1,ha',fZ hn (RepF.l.mp r0) hl', ?_⟩
  refine ⟨[D.obj ci fs],fp++[],r,by unfold RepL; exact ⟨v,[],fp,[],by rw [e1]; rfl,rfl,r1',rfl,rfl⟩,g3,fun w H3 fp' s3 r3 nd fr=>q w H3 fp' (s1.trans s3) r3 ⟨nd,fun _ z=>(nomatch z),fun b hb=>.inl (s1.free (fr b hb).1),fun b hb=>(fr b hb).2⟩⟩
 | _=>injection h
end
end Vi
namespace L2
open PySem PySem.Spec PyProof.Rows
section
variable {X:Cx} {pins:List (Addr × Obj)} {σ:St} {H:Hp} {s:Shared}
theorem Inv.turnedL {t':Nat} {ch:List Addr} {h':Heap} (I:Inv X pins σ H s) (hch:∀ b∈ch,FpOk X pins H b) (k:∀ b o,b∉ch→s.heap.get? b=some o→h'.get? b=some o):Inv X pins σ H { s with heap:=h',toks:=t' }:=by
 have nit:∀ b u,H b=some u→b∉ch:=fun b u e z=>by rw [(hch b z).1] at e; injection e
 have L:X.env.locals∉ch:=fun z=>(hch _ z).2.1 rfl
 refine I.step (g':=s.gens) (d':=s.drawn) (ch:=ch) (fun b hb=>⟨(hch b hb).2.2.2.1,(hch b hb).2.1,(hch b hb).2.2.2.2.1,(hch b hb).2.2.2.2.2⟩) (fun b o _ _ hc e _=>k b o hc e) (fun b o _ _ hc e _=>⟨o.slots,k b o hc e⟩) (fun _ _ _ _ n=>n)
  (fun b o hc e=>⟨o,k b o hc e⟩) (fun _ _ e=>e) (fun _ _ _ e=>e) (fun b ps e=>⟨#[],by rw [e]; simp⟩) (fun m hm=>?_) (fun b u e=>?_) I.bare
 ·refine zz fun P_ k_=>?_
  obtain ⟨o,es,ep,ho,r⟩:=hm
  refine k_ ?_
  exact ⟨o,es,ep,k _ o L ho,r⟩
 ·refine (I.hok b u e).stay (fun c v hc q=>k c v ?_ q) (fun _ q=>q) fun _ _ q=>q
  rcases hc with rfl | hc
  ·exact nit c u e
  ·exact nit c _ hc
noncomputable def Itz (K:PySem.W.Frag) (a b:Addr):It :=
 ⟨fun i H=>∃ xs ys x y,SqL K H a xs∧SqL K H b ys∧xs[i]?=some x∧ys[i]?=some y,fun i H x H'=>∃ p u v,H p=none∧x=.ref p∧H'=upd H p (.tup [u,v])∧(∀ xs,SqL K H a xs→xs[i]?=some u)∧∀ ys,SqL K H b ys→ys[i]?=some v,
  fun i H=>∃ xs ys,SqL K H a xs∧SqL K H b ys∧(xs.length≤i∨ys.length≤i)⟩
inductive ZT (a b z p q i1 i2:Addr) (i:Nat) (h:Heap):Prop
 | mk (u v:Value) (hz:IsZip h z p q .none) (hp:IsPair h p (.ref i1) (.ref i2)) (hq:IsPair h q u v) (h1:h.IsListIter i1 a i) (h2:h.IsListIter i2 b i)
theorem turn_zip {P:Program} {w:World} {K:PySem.W.Frag} {elts:List Expr} {x1} {pos:Pos} {a b z p q i1 i2:Addr} (D:ZipApart z p q i1 i2 a b):Turn P w K (.Tuple elts x1 pos) (Itz K a b) [z,p,q,i1,i2] z (ZT a b z p q i1 i2) where
 mem:=List.mem_cons_self
 obj:=fun i h st c hc=>by
  refine zz fun P_ k_=>?_
  obtain ⟨u,v,hz,hp,hq,⟨o1,e1,_,d1⟩,⟨o2,e2,_,d2⟩⟩:=st
  refine k_ ?_
  have hc:c=z∨c=p∨c=q∨c=i1∨c=i2:=by simpa using hc
  rcases hc with e | e | e | e | e
  ·exact ⟨_,e ▸ hz,fun v y=>by
    have y:Data.fields _=Data.cell v:=y
    injection y⟩
  ·exact ⟨_,e ▸ hp,fun v y=>by
    have y:Data.seq _ _=Data.cell v:=y
    injection y⟩
  ·exact ⟨_,e ▸ hq,fun v y=>by
    have y:Data.seq _ _=Data.cell v:=y
    injection y⟩
  ·exact ⟨o1,e ▸ e1,fun v y=>by rw [d1] at y; injection y⟩
  ·exact ⟨o2,e ▸ e2,fun v y=>by rw [d2] at y; injection y⟩
 keep:=fun i h h' st k=>by
  refine zz fun P_ k_=>?_
  obtain ⟨u,v,hz,hp,hq,h1,h2⟩:=st
  refine k_ ?_
  exact ⟨u,v,k z (by simp) _ hz,k p (by simp) _ hp,k q (by simp) _ hq,h1.at fun o e=>k i1 (by simp) o e,h2.at fun o e=>k i2 (by simp) o e⟩
 item:=by
  intro X hP hw hK hc i pins s σ H E I hf st hg
  subst hP hw hK
  refine zz fun P_ k_=>?_
  obtain ⟨xs,ys,x,y,hx,hy,gx,gy⟩:=hg
  obtain ⟨its,rv,pl,hz⟩:=I.list hx
  obtain ⟨its2,rv2,pl2,hz2⟩:=I.list hy
  obtain ⟨u,hu,ru⟩:=rv.get gx
  obtain ⟨u2,hu2,ru2⟩:=rv2.get gy
  obtain ⟨v1,v2,sz,sp,sq,s1,s2⟩:=st
  refine k_ ?_
  have hlt:∀ c∈[z,p,q,i1,i2],c < s.heap.objs.size:=fun c hc=>by
   have hc:c=z∨c=p∨c=q∨c=i1∨c=i2:=by simpa using hc
   rcases hc with e | e | e | e | e
   ·exact e ▸ Heap.lt_size sz
   ·exact e ▸ Heap.lt_size sp
   ·exact e ▸ Heap.lt_size sq
   ·obtain ⟨o,e2,_⟩:=s1; exact e ▸ Heap.lt_size e2
   ·obtain ⟨o,e2,_⟩:=s2; exact e ▸ Heap.lt_size e2
  refine wpAny_pyNext_zip_item D sz sp sq s1 s2 pl.isList pl2.isList (x:=u) (y:=u2) (by simpa using hu) (by simpa using hu2) fun h1 g1 g2 g3 g4 ht hsz hk=>?_
  refine ⟨_,rfl,wpAny_letOwnedTupleGo_zip g1 fun h2 he2 hs2=>?_⟩
  have hs2:Heap.SameBut z h1 h2:=hs2
  have hpz:s.heap.objs.size≠z:=Nat.ne_of_gt (hlt z (by simp))
  have hk2:∀ c o,c∉[z,p,q,i1,i2]→s.heap.get? c=some o→h2.get? c=some o:=fun c o hc hco=>by
   have hc:c≠z∧c≠p∧c≠q∧c≠i1∧c≠i2:=by simpa using hc
   exact (hs2.2 c hc.1).trans (hk c o hc.1 hc.2.2.1 hc.2.2.2.1 hc.2.2.2.2 hco)
  have tup:IsTup h2 s.heap.objs.size #[u,u2]:=⟨_,(hs2.2 _ hpz).trans ht,rfl,_,rfl⟩
  refine ⟨.ref s.heap.objs.size,upd H s.heap.objs.size (.tup [x,y]),I.turnedNew (ch:=[z,p,q,i1,i2]) hf hk2 (Nat.le_refl _) ?_,rfl,⟨_,x,y,I.hok.fresh (Nat.le_refl _),rfl,rfl,fun ws hw=>by rw [I.list_inj hw hx]; exact gx,fun ws hw=>by rw [I.list_inj hw hy]; exact gy⟩,
   ⟨u,u2,he2,(hs2.2 p D.TIz).trans (hk p _ D.TIz D.TITO D.TIi1 D.TIi2 sp),(hs2.2 q D.TOz).trans g2,g3.at fun o e=>(hs2.2 i1 D.i1z).trans e,g4.at fun o e=>(hs2.2 i2 D.i2z).trans e⟩,fun c hc=>?_⟩
  ·exact ⟨by rw [sizeLine_eq]; show 2≤16777216; decide,[u,u2],.cons ru (.cons ru2 .nil),tup⟩
  ·rw [aj (Nat.ne_of_lt (hlt c hc))]; exact (hf c hc).1
 done:=by
  intro X hP hw hK hc i pins s σ H E I hf st hg
  subst hP hw hK
  refine zz fun P_ k_=>?_
  obtain ⟨xs,ys,hx,hy,hle⟩:=hg
  obtain ⟨its,rv,pl,hz⟩:=I.list hx
  obtain ⟨its2,rv2,pl2,hz2⟩:=I.list hy
  obtain ⟨v1,v2,sz,sp,sq,s1,s2⟩:=st
  refine k_ ?_
  refine wpAny_pyNext_zip_end (I.ok.hd hc) D sz sp sq s1 s2 pl.isList pl2.isList (hle.imp (fun h=>?_) fun h=>?_) fun h' eb=>⟨rfl,I.turnedL (t':=s.toks) (ch:=[z,p,q,i1,i2]) hf fun c o hc e=>?_⟩
  ·rw [List.getElem?_toArray]; exact List.getElem?_eq_none (rv.length ▸ h)
  ·rw [List.getElem?_toArray]; exact List.getElem?_eq_none (rv2.length ▸ h)
  ·have hc:c≠z∧c≠p∧c≠q∧c≠i1∧c≠i2:=by simpa using hc
   exact eb c o hc.1 hc.2.2.1 hc.2.2.2.1 hc.2.2.2.2 e
 self:=fun _ _ _ _ _ st h=>by obtain ⟨_,_,hz,_⟩:=st; exact wpAny_pyIter_zip hz h
end
end L2
namespace L2
open PySem PySem.Spec PyProof.Rows
section
variable {X:Cx}
noncomputable def iZip (K:PySem.W.Frag) (ta:TA):TI:=fun σ H R=>ta σ H fun vs H1=>∃ a b xs ys,vs=[.ref a,.ref b]∧SqL K H1 a xs∧SqL K H1 b ys∧R (Itz K a b) H1
theorem pi_zip {a b : Expr} {ta : TA} {p pos tp : Pos} {elts : List Expr} {x1} (hg : Gl X "zip") (hm : X.mg "zip" = none) (hv : bootBuiltins "zip" = some (.type "zip")) (ha : PA X [a, b] ta) (hs : starEach [a, b] X.env = (false, eval a X.env) :: starEach [b] X.env) (hs2 : (backTo pos (starEach [b] X.env)).any (·.1) = false) :
  PI X (.Tuple elts x1 tp) (.Call (.Name "zip" p) [a, b] [] pos) (iZip X.K ta) := by
 intro pins s σ H R I h
 refine Call_ (ld_blt I hg hm hv (PyProof.Rows.callWith_type1 (thn (ha pos pins s σ H _ I h) fun us s1 h1=>?_) hs hs2))
 refine zz fun P_ k_=>?_
 obtain ⟨vs,H1,I1,r1,q1⟩:=h1
 obtain ⟨l,m,xs,ys,e,hx,hy,q⟩:=q1
 refine k_ ?_
 subst e
 refine zz fun P_ k_=>?_
 obtain ⟨u,u2,eu,ru,ru2⟩:=r1.two
 refine k_ ?_
 subst eu
 subst ru
 subst ru2
 refine zz fun P_ k_=>?_
 obtain ⟨its,rv,pl,hz⟩:=I1.list hx
 obtain ⟨its2,rv2,pl2,hz2⟩:=I1.list hy
 refine k_ ?_
 refine call_zip_2 pl.isList pl2.isList fun h' g1 g2 g3 g4 g5 hsz hk=>?_
 refine wpAny_pyIter_zip (s:={ s1 with heap:=h' }) g1 ?_
 have I2:Inv X pins σ H1 { s1 with heap:=h' }:=I1.kept (t':=s1.toks) hk
 have fr:∀ c∈[s1.heap.objs.size+4,s1.heap.objs.size+2,s1.heap.objs.size+3,s1.heap.objs.size,s1.heap.objs.size+1],FpOk X pins H1 c:=fun c hc=>by
  have hc:c=s1.heap.objs.size+4∨c=s1.heap.objs.size+2∨c=s1.heap.objs.size+3∨c=s1.heap.objs.size∨c=s1.heap.objs.size+1:=by simpa using hc
  have hle:s1.heap.objs.size≤c:=by
   rcases hc with e | e | e | e | e <;> rw [e] <;> first | exact Nat.le_refl _ | exact Nat.le_add_right _ _
  exact I1.fpOk hle (I1.hok.fresh hle)
 have la:l < s1.heap.objs.size:=pl.lt
 have lb:m < s1.heap.objs.size:=pl2.lt
 have nl:∀ {c d:Addr},c < s1.heap.objs.size→c≠s1.heap.objs.size+d:=fun h z=>absurd h (Nat.not_lt.mpr (z ▸ Nat.le_add_right _ _))
 have nn:∀ {c d:Nat},c≠d→s1.heap.objs.size+c≠s1.heap.objs.size+d:=fun h z=>h (Nat.add_left_cancel z)
 exact ⟨_,_,_,Itz X.K l m,H1,rfl,I2,turn_zip ⟨nn (by decide),nn (by decide),nn (c:=0) (by decide),nn (by decide),nn (by decide),nn (d:=0) (by decide),nn (by decide),nn (d:=0) (by decide),nn (by decide),nn (c:=0) (by decide),
  nl la,nl la,nl (d:=0) la,nl la,nl lb,nl lb,nl (d:=0) lb,nl lb⟩,⟨_,_,g1,g2,g3,g4,g5⟩,fr,q⟩
end
end L2
namespace Vi
open PySem PySem.Spec PyProof.Rows L2
section
variable {X:Cx} {cl:Nat→Addr} {M:Tab} {a b:Expr} {pos p:Pos} {a' b':E}
theorem zipD_get:∀ {l m:List D} {i:Nat} {x y:D},l[i]?=some x→m[i]?=some y→(zipD l m)[i]?=some (.tup [x,y]):=by
 intro l
 induction l with
 | nil=>intro m i x y h; exact nomatch List.getElem?_nil.symm.trans h
 | cons d l ih =>
  intro m
  cases m with
  | nil=>intro i x y _ h; exact nomatch List.getElem?_nil.symm.trans h
  | cons e m =>
   intro i x y h h'
   cases i with
   | zero=>injection h with h; injection h' with h'; subst h; subst h'; rfl
   | succ i=>exact ih h h'
theorem jy:∀ {l m:List D},(zipD l m).length=min l.length m.length:=by
 intro l
 induction l with
 | nil=>intro m; exact (Nat.zero_min _).symm
 | cons d l ih =>
  intro m
  cases m with
  | nil=>rfl
  | cons e m=>exact (congrArg Nat.succ ih).trans (Nat.succ_min_succ _ _).symm
theorem gi_zip {elts : List Expr} {x1} {tp : Pos} (hg : Gl X "zip") (hm : X.mg "zip" = none) (hv : bootBuiltins "zip" = some (.type "zip")) (hs : starEach [a, b] X.env = (false, eval a X.env) :: starEach [b] X.env) (hs3 : starEach [b] X.env = (false, eval b X.env) :: starEach [] X.env) (hs2 : (backTo pos (starEach [b] X.env)).any (·.1) = false) (ha : GE X cl M a a') (hb : GE X cl M b b') :
  GI X cl M (.Tuple elts x1 tp) (.Call (.Name "zip" p) [a, b] [] pos) .zip [a', b'] := fun ρ xs k hr => by
 rw [rI_1] at hr
 refine zz fun P_ k_=>?_
 obtain ⟨⟨x,kx⟩,g1,hr⟩:=R.bind_ok hr
 rw [eh] at hr
 obtain ⟨⟨ys,ky⟩,g2,hr⟩:=R.bind_ok hr
 obtain ⟨⟨y,k2⟩,g3,g2⟩:=R.bind_ok g2
 refine k_ ?_
 rw [h9] at g2
 have g2:R.ok ([y],ff k2 (.sto []))=R.ok (ys,ky):=g2
 injection g2 with g2
 obtain ⟨e1,e2⟩:=Prod.mk.inj g2
 subst e1; subst e2
 cases x with
 | lst l =>
  cases y with
  | lst m =>
   have hr:R.ok (zipD l m,ff kx (ff k2 (.sto [])))=R.ok (xs,k):=hr
   injection hr with hr
   obtain ⟨e1,e2⟩:=Prod.mk.inj hr
   subst e1; subst e2
   have pa:=bI (ha ρ _ kx g1) (bI (hb ρ _ k2 g3) de hs3) hs
   refine pi_imp (pi_zip hg hm hv pa hs hs2) fun σ H R h=>?_
   refine zz fun P_ k_=>?_
   obtain ⟨H0,F,S,q⟩:=h
   refine k_ ?_
   refine ⟨H0,F,S,fun v1 H1 f1 s1 r1 q1=>⟨H0,F,S.step s1,fun v2 H2 f2 s2 r2 q2=>?_⟩⟩
   have kk:KOk ρ F H H0 H2 (f1++f2) (ff kx (ff k2 (.sto []))):=by
    have z:=KOk.comb S s1 s2 r1.dom q1 (KOk.comb (S.step s1) s2 (Same.refl H2) r2.dom q2 (KOk.nil0 (ρ:=ρ) (F:=F) (H:=H2) (H0:=H0)))
    rw [List.append_nil] at z
    exact z
   have r1':=r1.same s2
   refine zz fun P_ k_=>?_
   obtain ⟨p1,ws,f',eb,ef',r,hpp⟩:=r1'
   obtain ⟨p2,ws2,f2',eb2,ef2',r2',hpp2⟩:=r2
   refine k_ ?_
   have rd0:∀ {p:Addr} {vs:List V} {B:Hp},(H2 p=some (.lst vs)∨∃ o,H2 p=some (.frz o (.lst vs)))→B p=H2 p→∀ {H':Hp},Same B H'→SqL X.K H' p vs:=fun h e _ s=>by
    rcases h with h | ⟨o,h⟩
    ·exact .inl (.inl (s _ _ (e.trans h)))
    ·exact .inl (.inr ⟨o,s _ _ (e.trans h)⟩)
   refine ⟨p1,p2,ws,ws2,by rw [eb,eb2],rd0 hpp rfl (Same.refl _),rd0 hpp2 rfl (Same.refl _),q _ H2 (f1++f2) (s1.trans s2) kk fun B hB tB=>?_⟩
   have b1:B p1=H2 p1:=hB p1 (by rw [ef']; exact List.mem_append_left _ List.mem_cons_self)
   have b2:B p2=H2 p2:=hB p2 (by rw [ef2']; exact List.mem_append_right _ List.mem_cons_self)
   refine ⟨fun i H' s hlt=>?_,fun i H' x H'' s y hlt=>?_,fun i H' s hle=>?_⟩
   ·rw [jy] at hlt
    have h1:i < ws.length:=by rw [r.len]; exact Nat.lt_of_lt_of_le hlt (Nat.min_le_left _ _)
    have h2:i < ws2.length:=by rw [r2'.len]; exact Nat.lt_of_lt_of_le hlt (Nat.min_le_right _ _)
    exact ⟨ws,ws2,ws[i],ws2[i],rd0 hpp b1 s,rd0 hpp2 b2 s,List.getElem?_eq_getElem h1,List.getElem?_eq_getElem h2⟩
   ·rw [jy] at hlt
    refine zz fun P_ k_=>?_
    obtain ⟨q1,y1,y2,hq1,ex,eH,hy,hy2⟩:=y
    have l1:=List.getElem?_eq_getElem (Nat.lt_of_lt_of_le hlt (Nat.min_le_left l.length m.length))
    have l2:=List.getElem?_eq_getElem (Nat.lt_of_lt_of_le hlt (Nat.min_le_right l.length m.length))
    obtain ⟨v3,fv,e1,e2,e3⟩:=r.get l1
    obtain ⟨v4,fv2,e4,e5,e6⟩:=r2'.get l2
    refine k_ ?_
    rw [hy ws (rd0 hpp b1 s)] at e1
    rw [hy2 ws2 (rd0 hpp2 b2 s)] at e4
    injection e1 with e1
    injection e4 with e4
    subst e1; subst e4; subst eH
    have sn:=Same.new (o:=HO.tup [y1,y2]) hq1
    have hk:∀ {f:List Addr},(∀ c∈f,c∈f1++f2)→Keep f H2 H':=fun h=>⟨fun c hc=>by
     have e:=hB c (h c hc)
     cases e7:H2 c with
     | none =>
      exact absurd e7 (by
       rcases List.mem_append.mp (h c hc) with z | z
       ·exact (r1.same s2).dom c z
       ·exact (show Rep cl H2 (.lst m) v2 f2 from ⟨p2,ws2,f2',eb2,ef2',r2',hpp2⟩).dom c z)
     | some o=>exact s c o (e.trans e7),fun c vs h=>s c _ (tB c vs h)⟩
    have in1:∀ c∈fv,c∈f1++f2:=fun c hc=>List.mem_append_left _ (by rw [ef']; exact List.mem_cons_of_mem _ (e3 c hc))
    have in2:∀ c∈fv2,c∈f1++f2:=fun c hc=>List.mem_append_right _ (by rw [ef2']; exact List.mem_cons_of_mem _ (e6 c hc))
    refine ⟨sn,.tup [_,_],fv++fv2,zipD_get l1 l2, ?_,fun c hc=>?_⟩
    ·unfold Rep
     refine ⟨q1,[y1,y2],ex,ao, ?_⟩
     unfold RepL
     refine ⟨_,_,fv,fv2,rfl,rfl,(e2.keep (hk in1)).same sn, ?_⟩
     unfold RepL
     exact ⟨_,_,fv2,[],rfl,(List.append_nil _).symm,(e5.keep (hk in2)).same sn,⟨rfl,rfl⟩⟩
    ·have hc':c∈f1++f2:=(List.mem_append.mp hc).elim (in1 c) (in2 c)
     rw [hB c hc']
     rcases List.mem_append.mp hc' with z | z
     ·exact (r1.same s2).dom c z
     ·exact (show Rep cl H2 (.lst m) v2 f2 from ⟨p2,ws2,f2',eb2,ef2',r2',hpp2⟩).dom c z
   ·rw [jy] at hle
    refine ⟨ws,ws2,rd0 hpp b1 s,rd0 hpp2 b2 s, ?_⟩
    rw [r.len,r2'.len]
    rcases Nat.le_total l.length m.length with z | z
    ·rw [Nat.min_eq_left z] at hle; exact .inl hle
    ·rw [Nat.min_eq_right z] at hle; exact .inr hle
  | _=>injection hr
 | _=>injection hr
end
end Vi
namespace L2
open PySem PySem.Spec PyProof.Rows
noncomputable def spC:Sp:=fun vs H Q _=>∃ (a:Addr) (f:List Addr) (k:Int),vs=[.ref a,.int k]∧H a=some (.lst (f.map V.ref))∧(a::f).Nodup∧f.length < 1000∧(∀ p∈f,∃ ws,H p=some (.lst ws)∧ws.length < 1000)∧∀ H',(∀ b,b∉f→H b≠none→H' b=H b)→Q .non H'
inductive CgI (a:Addr) (f:List Addr) (k:Int) (H:Hp) (n:Nat) (σ':St) (H':Hp):Prop
 | mk (len:σ'.length=3) (s1:σ'[1]?=some (some (.int k))) (off:∀ b,b∉f→H b≠none→H' b=H b) (ls:∀ p∈f,∃ ws,H' p=some (.lst ws)∧ws.length < 1000+n)
theorem CgI.app {a p t:Addr} {f:List Addr} {k:Int} {H H':Hp} {n:Nat} {σ':St} {ws:List V} (I:CgI a f k H n σ' H') (hp:p∈f) (ht:H' t=none) (hw:ws.length < 1000+n):CgI a f k H (n+1) σ' (upd (upd H' t (.tup [.int 0,.int 0])) p (.lst (ws++[.ref t]))):=by
 refine zz fun P_ k_=>?_
 obtain ⟨l,s1,off,ls⟩:=I
 refine k_ ?_
 refine ⟨l,s1,fun b hb hn=>?_,fun q hq=>?_⟩
 ·have e:=off b hb hn
  rw [aj (fun z=>hb (by rw [z]; exact hp)),aj (fun z=>hn (by rw [← e,z]; exact ht)),e]
 ·by_cases hqp:q=p
  ·subst hqp
   exact ⟨_,ao,by rw [List.length_append]; exact Nat.succ_lt_succ hw⟩
  ·obtain ⟨us,hu,hl⟩:=ls q hq
   exact ⟨us,by rw [aj hqp,aj (fun z=>by rw [z,ht] at hu; injection hu)]; exact hu,Nat.lt_succ_of_lt hl⟩
theorem CgI.clr {a p:Addr} {f:List Addr} {k:Int} {H H':Hp} {n:Nat} {σ':St} {ws:List V} (I:CgI a f k H n σ' H') (hp:p∈f) (hw:ws.length < 1000+n):CgI a f k H n σ' (upd H' p (.lst ws)):=by
 refine zz fun P_ k_=>?_
 obtain ⟨l,s1,off,ls⟩:=I
 refine k_ ?_
 refine ⟨l,s1,fun b hb hn=>?_,fun q hq=>?_⟩
 ·rw [aj (fun z=>hb (by rw [z]; exact hp))]; exact off b hb hn
 ·by_cases hqp:q=p
  ·subst hqp
   exact ⟨_,ao,hw⟩
  ·rw [aj hqp]; exact ls q hq
theorem CgI.st {a:Addr} {f:List Addr} {k:Int} {H H':Hp} {n:Nat} {σ':St} {v:V} (I:CgI a f k H n σ' H'):CgI a f k H n (σ'.set 2 (some v)) H':=by
 refine zz fun P_ k_=>?_
 obtain ⟨l,s1,off,ls⟩:=I
 refine k_ ?_
 exact ⟨by rw [List.length_set]; exact l,by rw [List.getElem?_set_ne (by decide)]; exact s1,off,ls⟩
noncomputable abbrev tChg (K : PySem.W.Frag) : TS := tFor (iList K (tVar 0)) (iE 2) (tSeq (tIfS (tTest (tOp rEq (tVar 1) (tC (.int 1)))) (iQ (tBM0 K "list" rClear (tVar 2))) tNext) (iQ (tBM K "list" ia (tVar 2) (jC (tTup (jC (tC (.int 0)) (jC (tC (.int 0)) tNil))) tNil))))
theorem chg_app {K:PySem.W.Frag} {D:Ends} {a p:Addr} {f:List Addr} {k:Int} {H H':Hp} {n:Nat} {σ':St} {ws:List V} (I:CgI a f k H n σ' H') (hp:p∈f) (h2:σ'[2]?=some (some (.ref p))) (hpw:H' p=some (.lst ws)) (hw:ws.length < 1000+n) (hn:n < 1000)
  (q : ∀ σ2 H2, CgI a f k H (n + 1) σ2 H2 → D.nx σ2 H2) : iQ (tBM K "list" ia (tVar 2) (jC (tTup (jC (tC (.int 0)) (jC (tC (.int 0)) tNil))) tNil)) D σ' H' := by
 refine ⟨.ref p,h2,.inl ⟨rfl,ws,.inl (.inl hpw)⟩, ?_⟩
 refine ⟨by rw [sizeLine_eq]; show 2≤16777216; decide,fun t ht=>⟨p,ws,.ref t,rfl,rfl, ?_, ?_,q _ _ (I.app hp ht hw)⟩⟩
 ·rw [aj (fun z=>by rw [z,ht] at hpw; injection hpw)]; exact hpw
 ·rw [sizeLine_eq]; exact Nat.lt_trans (Nat.lt_trans hw (Nat.add_lt_add_left hn 1000)) (by decide)
theorem chg_run {K:PySem.W.Frag} {a:Addr} {f:List Addr} {k:Int} {H:Hp} {σ:St} {D:Ends} (hl:σ.length=3) (h0:σ[0]?=some (some (.ref a))) (h1:σ[1]?=some (some (.int k))) (ha:H a=some (.lst (f.map V.ref))) (nd:(a::f).Nodup) (hf:f.length < 1000)
  (hp:∀ p∈f,∃ ws,H p=some (.lst ws)∧ws.length < 1000) (q:∀ σ' H',(∀ b,b∉f→H b≠none→H' b=H b)→D.nx σ' H'):tChg K D σ H:=by
 have naf:=(List.nodup_cons.mp nd).1
 refine ⟨.ref a,h0,a,rfl,⟨_,.inl (.inl ha)⟩,fun n m σ' H'=>m=f.length - n∧n≤f.length∧CgI a f k H n σ' H',⟨f.length,rfl,Nat.zero_le _,hl,h1,fun _ _ _=>rfl,hp⟩, ?_⟩
 intro n m σ' H' hh
 obtain ⟨em,hn,I⟩:=hh
 subst em
 have off:=(match I with | ⟨_,_,o,_⟩=>o)
 have ha':H' a=some (.lst (f.map V.ref)):=(off a naf (by rw [ha]; exact fun z=>nomatch z)).trans ha
 by_cases hlt:n < f.length
 ·have hpn:f[n]?=some f[n]:=List.getElem?_eq_getElem hlt
  have hpm:f[n]∈f:=List.getElem_mem hlt
  have hvn:(f.map V.ref)[n]?=some (.ref f[n]):=by rw [List.getElem?_map,hpn]; rfl
  refine .inr ⟨⟨_,.ref f[n],.inl (.inl ha'),hvn⟩,CgI a f k H (n+1),fun σ2 H2 h2=>⟨f.length - (n+1),Nat.sub_lt_sub_left hlt (Nat.lt_succ_self n),rfl,hlt,h2⟩,fun x H2 y=>?_⟩
  obtain ⟨eH,y⟩:=y
  subst eH
  have ex:=y _ (.inl (.inl ha'))
  rw [hvn] at ex
  injection ex with ex
  subst ex
  have I2:=I.st (v:=.ref f[n])
  refine zz fun P_ k_=>?_
  obtain ⟨l2,s1,_,ls⟩:=id I2
  obtain ⟨ws,hw,hwl⟩:=ls _ hpm
  refine k_ ?_
  have h2:(σ'.set 2 (some (V.ref f[n])))[2]?=some (some (.ref f[n])):=List.getElem?_set_self (by rw [List.length_set] at l2; rw [l2]; decide)
  have hn':n < 1000:=Nat.lt_trans hlt hf
  refine ⟨.int k,s1,by rfl,_,rfl, ?_⟩
  show (if decide (V.int k=V.int 1)=true then _ else _)
  split
  ·refine ⟨.ref f[n],h2,.inl ⟨rfl,ws,.inl (.inl hw)⟩,_,ws,rfl,rfl,hw, ?_⟩
   exact chg_app (I2.clr hpm (ws:=[]) (Nat.lt_of_lt_of_le (by decide) (Nat.le_add_right _ _))) hpm h2 ao (Nat.lt_of_lt_of_le (by decide) (Nat.le_add_right _ _)) hn' fun _ _ z=>z
  ·exact chg_app I2 hpm h2 hw hwl hn' fun _ _ z=>z
 ·have en:n=f.length:=Nat.le_antisymm hn (Nat.not_lt.mp hlt)
  exact .inl ⟨⟨_,.inl (.inl ha'),by rw [List.length_map,en]; exact Nat.le_refl _⟩,q σ' H' off⟩
end L2
namespace Vi
open PySem PySem.Spec PyProof.Rows L2
section
variable {cl:Nat→Addr} {H0 H H':Hp} {ρ:Env} {F:Nat→List Addr} {σ:L2.St}
theorem SOK.lose {i:Nat} {d:D} (S:SOK cl H0 ρ F σ H) (e:ρ[i]?=some (some (d,true))) (keep:∀ b,b∉F i→H b≠none→H' b=H b) (tup:∀ a vs,H a=some (.tup vs)→H' a=some (.tup vs)):SOK cl H0 (ρ.set i none) F σ H':=by
 have hil:i < ρ.length:=(List.getElem?_eq_some_iff.mp e).1
 have look:∀ {j:Nat} {x:D × Bool},(ρ.set i none)[j]?=some (some x)→j≠i∧ρ[j]?=some (some x):=fun {j x} h=>by
  rw [cK hil] at h
  by_cases q:i=j
  ·rw [if_pos q] at h; injection h with h; injection h
  ·rw [if_neg q] at h; exact ⟨Ne.symm q,h⟩
 have stay:∀ {j:Nat} {x:D} {o:Bool},j≠i→ρ[j]?=some (some (x,o))→∀ a∈F j,H' a=H a:=fun {j x o} hji h a ha =>
  keep a (fun z=>S.dis i j d x o (Ne.symm hji) e h a z ha) (S.dom h a ha)
 refine ⟨fun b o h=>?_,by rw [List.length_set]; exact S.len,fun j x o h=>?_,fun j x h=>?_,fun j l x y o hjl h h'=>S.dis j l x y o hjl (look h).2 (look h').2,fun j x h=>S.old j x (look h).2⟩
 ·have h1:=S.same b o h
  rw [keep b (fun z=>?_) (by rw [h1]; exact fun z=>nomatch z)]
  ·exact h1
  ·have:=((S.own i d e).2 b z).1
   rw [h] at this
   injection this
 ·refine zz fun P_ k_=>?_
  obtain ⟨q,hA⟩:=look h
  obtain ⟨w,h1,h2⟩:=S.rep j x o hA
  refine k_ ?_
  exact ⟨w,h1,h2.keep ⟨stay q hA,tup⟩⟩
 ·obtain ⟨q,hA⟩:=look h
  refine ⟨(S.own j x hA).1,fun a ha=>⟨((S.own j x hA).2 a ha).1,fun o u z=>?_⟩⟩
  rw [stay q hA a ha] at z
  exact ((S.own j x hA).2 a ha).2 o u z
end
structure LnkC (P:Program) (w:World) (K:PySem.W.Frag) (mg:Str→Option Value) (base:Heap) (x:Str) (lev:Nat) (ps:List Str):Prop where
 ex:∃ f fd,FnOk P w K mg base CX0 lev f fd ps spC∧mg x=some (.ref f)∧PySem.W.keepIn K (.ref f)=true∧eN K fd ps []
section
variable {X:Cx} {cl:Nat→Addr} {M:Tab} {a e:Expr} {st:Stmt} {pos p epos:Pos} {e':E}
theorem at_own {i:Nat} {L:List D} {ls:List (List D)} {ρ:Env} {H0 H:Hp} {F:Nat→List Addr} {σ:L2.St} {b:Addr} {vs:List V} {f:List Addr} (S:SOK cl H0 ρ F σ H) (hl:ρ[i]?=some (some (.lst L,true))) (hf:fe L=some ls) (eF:F i=b::f) (r:RepL cl H L vs f) :
  vs=f.map V.ref∧f.length=ls.length∧(b::f).Nodup∧∀ (k:Nat) (p:Addr),f[k]?=some p→∃ l ws,ls[k]?=some l∧H p=some (.lst ws)∧RepL cl H l ws []:=by
 obtain ⟨ev,hlen,hit⟩:=flats_rep hf r
 refine ⟨ev,hlen,eF ▸ (S.own i _ hl).1,fun k p hk=>?_⟩
 have hk':k < ls.length:=by rw [← hlen]; exact (List.getElem?_eq_some_iff.mp hk).1
 refine zz fun P_ k_=>?_
 obtain ⟨him,ws,h1,h2⟩:=hit k p ls[k] hk (List.getElem?_eq_getElem hk')
 refine k_ ?_
 refine ⟨ls[k],ws,List.getElem?_eq_getElem hk', ?_,h2⟩
 rcases h1 with h1 | ⟨ob,h1⟩
 ·exact h1
 ·exact absurd h1 (((S.own i _ hl).2 p (by rw [eF]; exact List.mem_cons_of_mem _ (List.mem_of_getElem? hk))).2 ob _)
theorem s_rvsL {i : Nat} {L : List D} {ls : List (List D)} {ρ : Env} (h : PS X st (iQ (tBM0 X.K "list" fM (tVar i)))) (hl : ρ[i]? = some (some (.lst L, true))) (hf : fe L = some ls) : PS X st (tSd cl ρ [] (.nx (ρ.set i (some (.lst (ls.reverse.map D.lst), true))))) :=
 cN h fun Dd σ H hh=>by
  refine zz fun P_ k_=>?_
  obtain ⟨H0,F,S,q⟩:=hh
  obtain ⟨b,vs,f,hv,ha,eF,r⟩:=S.lst hl
  obtain ⟨ev,hlen,nd,at_⟩:=at_own S hl hf eF r
  have news:RepL cl H (ls.reverse.map fun l=>.lst l) (f.reverse.map V.ref) f.reverse:=repL_of (g:=fun l=>l) (by rw [List.length_reverse,List.length_reverse]; exact hlen) fun k p l hk hlk=>by
   have kl:k < f.length:=by have:=(List.getElem?_eq_some_iff.mp hk).1; rwa [List.length_reverse] at this
   rw [List.getElem?_reverse kl] at hk
   rw [List.getElem?_reverse (hlen ▸ kl),← hlen] at hlk
   obtain ⟨l2,ws,h1,h2,h3⟩:=at_ _ p hk
   rw [hlk] at h1
   injection h1 with h1
   subst h1
   exact ⟨ws,h2,h3⟩
  obtain ⟨F',S'⟩:=mut_list S hl hv ha eF (f':=f.reverse) (fun c hc=>List.mem_reverse.mp hc) ((List.reverse_perm f).nodup_iff.mpr (List.nodup_cons.mp nd).2) news
  refine k_ ?_
  refine ⟨.ref b,hv,.inl ⟨rfl,vs,.inl (.inl ha)⟩,b,vs,rfl,rfl,ha, ?_⟩
  rw [ev,← List.map_reverse]
  exact q σ _ F' S' fun _ _=>rfl
set_option tactic.hygienic true in
theorem gs_rvsL {i : Nat} (h : PS X st (iQ (tBM0 X.K "list" fM (tVar i)))) : GS X cl M st (.rvsL i) := fun ρ => by
 rw [rS_rvsL]
 split
 ·rename_i l hl
  split
  ·rename_i ls hf; exact s_rvsL h (fO hl) hf
  ·exact bH
 ·exact bH
set_option tactic.hygienic true in
theorem gs_chg {i lev kk : Nat} {x : Str} {ps : List Str} (L : LnkC X.prog X.w X.K X.mg X.base x lev ps) (hr : Room kk X.A) (hlv : lev ≤ kk) (hg : Gl X x) (hd : (x == ("__debug__" : Str)) = false) (he : starEach [a, e] X.env = (false, eval a X.env) :: starEach [e] X.env) (he2 : starEach [e] X.env = (false, eval e X.env) :: starEach [] X.env) (hpl : (backTo pos (starEach [e] X.env)).any (·.1) = false)
  (hs:swapsWith (.Call (.Name x p) [a,e] [] pos) none epos.line X.env=pure false) (hv:PE X a (tVar i)) (hE:GE X cl M e e'):GS X cl M (.Expr (.Call (.Name x p) [a,e] [] pos) epos) (.chg i e'):=fun ρ=>by
 refine zz fun P_ k_=>?_
 obtain ⟨f,fd,F,hm,hk,hb⟩:=L.ex
 refine k_ ?_
 rw [rS_chg]
 cases hr':runE M e' ρ with
 | ok q =>
  obtain ⟨d,k⟩:=q
  simp only [ofR]
  split
  ·rename_i L' hl
   split
   ·rename_i ls hf
    split
    ·rename_i hc
     have hl:=fO hl
     refine cN (cv (pe_call F (hr.mono hlv) hg hm hk hb .nil pass0 (bI hv (bI (hE ρ _ k hr') de he2) he) hd he hpl) hs) fun Dd σ H hh=>?_
     refine zz fun P_ k_=>?_
     obtain ⟨H0,Fs,S,q⟩:=hh
     obtain ⟨b,vs,g,hv',ha,eF,r⟩:=S.lst hl
     refine k_ ?_
     refine ⟨.ref b,hv',H0,Fs,S,fun y H1 g1 s1 r1 _=>?_⟩
     have S1:=S.step s1
     refine zz fun P_ k_=>?_
     obtain ⟨ev,hlen,nd,at_⟩:=at_own S1 hl hf eF (r.same s1)
     refine k_ ?_
     refine ⟨b,g,_,by rw [r1.1]; rfl,by rw [← ev]; exact s1 b _ ha,nd,by rw [hlen]; exact hc.2,fun c hcg=>?_,fun H' off=>?_⟩
     ·refine zz fun P_ k_=>?_
      obtain ⟨n,hn,en⟩:=List.getElem_of_mem hcg
      obtain ⟨l,ws,h1,h2,h3⟩:=at_ n c (List.getElem?_eq_some_iff.mpr ⟨hn,en⟩)
      refine k_ ?_
      exact ⟨ws,h2,by rw [h3.len]; exact hc.1 l (List.mem_of_getElem? h1)⟩
     ·refine q σ H' Fs (S1.lose hl (fun c hcF hn=>off c (fun z=>hcF (by rw [eF]; exact List.mem_cons_of_mem _ z)) hn) fun c us hcu=>?_) fun _ _=>rfl
      rw [off c (fun z=>?_) (by rw [hcu]; exact fun z=>nomatch z)]
      ·exact hcu
      ·refine zz fun P_ k_=>?_
       obtain ⟨n,hn,en⟩:=List.getElem_of_mem z
       obtain ⟨l,ws,h1,h2,h3⟩:=at_ n c (List.getElem?_eq_some_iff.mpr ⟨hn,en⟩)
       refine k_ ?_
       rw [h2] at hcu; injection hcu with hcu; injection hcu
    ·exact bH
   ·exact bH
  ·exact bH
 | ex z=>exact s_ex
 | bad=>exact bH
end
section
variable {P:Program} {w:World} {K:PySem.W.Frag} {mg:Str→Option Value} {base:Heap}
theorem chg_ok {x qual:Str} {st:Stmt} {f:Addr} {fd:FuncData} {N ps:List Str} {kk:Nat} (Fu:Fun K x qual st f fd) (Sc:aJ N ps (ab st)) (hps:ps.length=2) (hN:N.length=3)
  (hb:∀ (cdv:Value) (A:Around) (outer:List PySem.Env) (s:Shared) (H:Hp) (E:XK),Room kk (A.deeper (envOfC qual (ab st) s.heap.objs.size f cdv)) →
   PSs (cxOf CX0 P w K mg base N qual (ab st) f cdv A outer s H E).nox (af st) (tChg K)):FnOk P w K mg base CX0 (kk+1) f fd ps spC:=by
 refine Fu.ok Sc (fun vs H Q E h=>?_) fun cdv A outer s H vs Q E hr h=>?_
 ·refine zz fun P_ k_=>?_
  obtain ⟨b,g,k,ev,_⟩:=h
  refine k_ ?_
  rw [ev,hps]; rfl
 ·refine zz fun P_ k_=>?_
  obtain ⟨b,g,k,ev,ha,nd,hl,hp,q⟩:=h
  refine k_ ?_
  refine ⟨_,hb cdv A outer s H E hr, ?_⟩
  subst ev
  refine chg_run (σ:=L2.dJ N [.ref b,.int k]) ?_ rfl rfl ha nd hl hp fun _ H' off=>q H' off
  unfold L2.dJ
  rw [hN]
  rfl
end
end Vi
namespace K12
open Vi
open PySem (Str)
noncomputable def gd:Fn:=⟨1,4,[
 .set 1 (.dnew false),
 .set 2 (.lst []),
 .for [3] true .each [(.var 0)] [.ifs (.cmp .mem (.var 3) (.var 1)) [.app 2 (.var 3)] [],.put 1 (.var 3) (.bl true)],
 .ret (.var 2)]⟩
noncomputable def cC:Fn:=⟨3,7,[
 .set 3 (.bin .add (.comp (.ix (.var 4) (.int 0)) [4] true .each [(.var 0)] (.bl true)) (.comp (.ix (.var 5) (.int 0)) [5] true .each [(.var 1)] (.bl true))),
 .set 6 (.bin .add (.call 0 [(.var 3)]) (.call 0 [(.var 2)])),
 .ifs (.var 6) [.raise] []]⟩
noncomputable def cL:Fn:=⟨2,3,[
 .for [2] true .each [(.bi .sorted [(.var 1)])] [.ifs (.cmp .ne (.bi .len [(.get2 (.var 0) (.var 2) (.tup []))]) (.int 2)) [.raise] []]]⟩
noncomputable def cq:Fn:=⟨2,7,[
 .set 2 (.dnew true),
 .set 3 (.lst []),
 .for [4] true .each [(.bi .sorted [(.var 0)])] [.set 5 (.dix (.var 0) (.var 4)),.ifs (.and (.cmp .eq (.bi .len [(.var 5)]) (.int 2)) (.cmp .nmem (.var 4) (.var 1))) [.ifs (.cmp .mem (.var 5) (.var 2)) [.app 3 (.tup [(.dix (.var 2) (.var 5)),(.var 4)])] [.put 2 (.var 5) (.var 4)]] []],
 .ifs (.var 3) [.raise] [],
 .ret (.var 2)]⟩
noncomputable def dy:Fn:=⟨1,7,[
 .set 1 (.dnew false),
 .set 2 (.bi .sorted [(.var 0)]),
 .whl 1000000 (.var 2) [.set 3 (.lst []),.for [4] true .each [(.var 2)] [.set 5 (.dix (.var 0) (.var 4)),.ifs (.bi .any [(.comp (.and (.cmp .mem (.var 6) (.var 0)) (.cmp .nmem (.var 6) (.var 1))) [6] true .each [(.var 5)] (.bl true))]) [.app 3 (.var 4)] [.put 1 (.var 4) (.bi .sum [(.comp (.get2 (.var 1) (.var 6) (.int 1)) [6] true .each [(.var 5)] (.bl true))])]],.ifs (.cmp .eq (.var 3) (.var 2)) [.raise] [],.set 2 (.var 3)],
 .ret (.var 1)]⟩
noncomputable def cy:Fn:=⟨1,2,[
 .for [1] true .each [(.bi .sorted [(.var 0)])] [.ifs (.cmp .gt (.dix (.var 0) (.var 1)) (.glb (.int 16))) [.raise] []]]⟩
noncomputable def cH:Fn:=⟨4,5,[
 .expr (.call 1 [(.var 1),(.var 2),(.var 3)]),
 .fset "rank_by_sign" (.bi .dict [(.var 1)]),
 .fset "row_by_sign" (.bi .dict [(.var 2)]),
 .fset "shut_by_sign" (.bi .dict [(.comp (.tup [(.var 4), (.bl true)]) [4] true .each [(.var 3)] (.bl true))]),
 .expr (.call 2 [(.fld (.var 0) "row_by_sign"), (.var 3)]),
 .fset "sign_by_pair" (.call 3 [(.fld (.var 0) "row_by_sign"), (.fld (.var 0) "shut_by_sign")]),
 .expr (.call 5 [(.call 4 [(.fld (.var 0) "row_by_sign")])])]⟩
noncomputable def cG:Fn:=⟨3,3,[
 .ret (.get1 (.fld (.var 0) "sign_by_pair") (.tup [(.var 1), (.var 2)]))]⟩
noncomputable def dQ:Fn:=⟨2,2,[
 .ifs (.cmp .lt (.var 1) (.bi .len [(.var 0)])) [.ret (.ix (.var 0) (.var 1))] [],
 .ret (.int 0)]⟩
noncomputable def iG:Fn:=⟨1,1,[
 .ret (.and (.bi .isInt [(.var 0)]) (.not (.bi .isBool [(.var 0)])))]⟩
noncomputable def dk:Fn:=⟨2,4,[
 .set 2 (.bin .fdiv (.var 0) (.int 4)),
 .set 3 (.ix (.lst [(.bin .mod (.var 2) (.int 40)),(.bin .mod (.var 2) (.bin .pow (.int 10) (.int 60))),(.bin .sub (.bin .sub (.bin .pow (.int 10) (.int 60)) (.int 1)) (.bin .mod (.var 2) (.int 40))),(.bin .mod (.var 2) (.int 1000))]) (.bin .mod (.var 0) (.int 4))),
 .ifs (.and (.cmp .eq (.bin .mod (.var 0) (.int 4)) (.int 3)) (.cmp .ne (.var 1) (.lst []))) [.set 3 (.bin .mod (.bin .sub (.bin .add (.ix (.var 1) (.bin .mod (.var 2) (.bi .len [(.var 1)]))) (.bin .mod (.bin .fdiv (.var 2) (.int 60)) (.int 3))) (.int 1)) (.bin .pow (.int 10) (.int 60)))] [],
 .whl 1000000 (.cmp .mem (.var 3) (.var 1)) [.set 3 (.bin .mod (.bin .add (.var 3) (.int 1)) (.bin .pow (.int 10) (.int 60)))],
 .ret (.var 3)]⟩
noncomputable def j6:Fn:=⟨1,1,[
 .ret (.bin .add (.int 1) (.bin .mod (.bin .fdiv (.var 0) (.int 3)) (.ix (.lst [(.int 4),(.int 999),(.int 12)]) (.bin .mod (.var 0) (.int 3)))))]⟩
noncomputable def iH:Fn:=⟨2,4,[
 .set 2 (.ix (.var 1) (.bin .mod (.bin .fdiv (.var 0) (.int 4)) (.bi .len [(.var 1)]))),
 .set 3 (.ix (.var 1) (.bin .mod (.bin .fdiv (.bin .fdiv (.var 0) (.int 4)) (.bi .len [(.var 1)])) (.bi .len [(.var 1)]))),
 .ifs (.cmp .eq (.bin .mod (.var 0) (.int 4)) (.int 0)) [.ret (.tup [(.var 2)])] [],
 .ret (.tup [(.var 2),(.var 3)])]⟩
noncomputable def dH:Fn:=⟨1,15,[
 .set 1 (.lst []),
 .set 2 (.lst []),
 .set 3 (.lst []),
 .set 4 (.lst []),
 .set 5 (.dnew false),
 .for [6] true .range [(.int 0),(.bin .sub (.bi .len [(.var 0)]) (.int 1)),(.int 2)] [.set 7 (.call 10 [(.ix (.var 0) (.var 6)),(.var 1)]),.set 8 (.bin .fdiv (.ix (.var 0) (.bin .add (.var 6) (.int 1))) (.int 6)),.set 9 (.tup []),.ifs (.and (.cmp .ne (.var 1) (.lst [])) (.cmp .gt (.bin .mod (.ix (.var 0) (.bin .add (.var 6) (.int 1))) (.int 6)) (.int 2))) [.set 9 (.call 12 [(.var 8),(.var 1)])] [],.set 10 (.bi .sum [(.comp (.dix (.var 5) (.var 11)) [11] true .each [(.var 9)] (.bl true))]),.ifs (.cmp .eq (.bin .mod (.ix (.var 0) (.bin .add (.var 6) (.int 1))) (.int 6)) (.int 1)) [.app 2 (.tup [(.var 7),(.call 11 [(.var 8)])])] [],.ifs (.and (.cmp .ne (.var 9) (.tup [])) (.cmp .lt (.var 10) (.int 17))) [.app 3 (.tup [(.var 7),(.var 9)]),.put 5 (.var 7) (.var 10),.set 12 (.comp (.var 13) [13,14] false .each [(.sl (.var 3) .nil (.neg (.int 1)))] (.and (.cmp .eq (.var 14) (.var 9)) (.cmp .nmem (.var 13) (.var 4)))),.ifs (.and (.cmp .eq (.bi .len [(.var 9)]) (.int 2)) (.or (.cmp .ne (.var 12) (.lst [])) (.cmp .eq (.bin .mod (.bin .fdiv (.var 8) (.int 4000)) (.int 5)) (.int 1)))) [.app 4 (.var 7)] []] [.put 5 (.var 7) (.int 1)],.app 1 (.var 7)],
 .ret (.tup [(.var 2),(.var 3),(.var 4),(.var 1)])]⟩
noncomputable def nofn:Nat→List D→R D:=fun _ _=>.bad
noncomputable def t0:Tab:=⟨nofn,nofn⟩
noncomputable def dD:=gd.run t0
noncomputable def t1:Tab:=⟨fun i=>match i with | 0=>dD | _=>fun _=>.bad,nofn⟩
noncomputable def bU:=cC.run t1
noncomputable def bD:=cL.run t0
noncomputable def bR:=cq.run t0
noncomputable def bV:=dy.run t0
noncomputable def bB:=cy.run t0
noncomputable def t2:Tab:=⟨fun i=>match i with | 1=>bU | 2=>bD | 3=>bR | 4=>bV | 5=>bB | _=>fun _=>.bad,nofn⟩
noncomputable def dN:=cH.init t2 0
noncomputable def hZ:=cG.run t0
noncomputable def dE:=dQ.run t0
noncomputable def hJ:=iG.run t0
noncomputable def r_sign:=dk.run t0
noncomputable def r_rank:=j6.run t0
noncomputable def r_row:=iH.run t0
noncomputable def t3:Tab:=⟨fun i=>match i with | 10=>r_sign | 11=>r_rank | 12=>r_row | _=>fun _=>.bad,nofn⟩
noncomputable def hV:=dH.run t3
end K12
namespace K11
open Vi K12
open PySem (Str)
noncomputable def eJ:Fn:=⟨2,2,[
 .ret (.get2 (.fld (.var 0) "rank_by_sign") (.var 1) (.int 0))]⟩
noncomputable def fF:Fn:=⟨2,2,[
 .ret (.get1 (.fld (.var 0) "row_by_sign") (.var 1))]⟩
noncomputable def dS:Fn:=⟨1,1,[
 .ret (.bi .sortI [(.fld (.var 0) "rank_by_sign")])]⟩
noncomputable def eI:Fn:=⟨1,1,[
 .ret (.bi .sortI [(.fld (.var 0) "row_by_sign")])]⟩
noncomputable def dR:Fn:=⟨1,1,[
 .ret (.bi .sorted [(.fld (.var 0) "shut_by_sign")])]⟩
noncomputable def gg:Fn:=⟨2,4,[
 .set 2 (.bin .mod (.var 1) (.bin .add (.bi .len [(.var 0)]) (.int 1))),
 .set 3 (.bin .add (.sl (.var 0) (.var 2) .nil) (.sl (.var 0) .nil (.var 2))),
 .ifs (.cmp .eq (.bin .mod (.var 1) (.int 3)) (.int 1)) [.rvs 3] [],
 .ret (.var 3)]⟩
noncomputable def hU:=eJ.run t0
noncomputable def r_trow:=fF.run t0
noncomputable def eX:=dS.run t0
noncomputable def fX:=eI.run t0
noncomputable def eV:=dR.run t0
noncomputable def cB:=gg.run t0
end K11
namespace K12
open Vi
open PySem (Str)
noncomputable abbrev O:=Option (D × Bool)
theorem zv {G:Prop} (h:∀ P:Prop,(G→P)→P):G:=h G id
theorem bind2 {ρ:Env} {i j:Nat} {a b:D} (h:(D.tup [a,b]).imm=true):bv ρ [i,j] false (.tup [a,b]) .old=some ((ρ.set i (some (a,true))).set j (some (b,true))):=if_pos ⟨rfl,h⟩
theorem ai {M:Tab} {s:S} {r:List S} {ρ ρ':Env} (h:runS M s ρ=.nx ρ'):aA M (s::r) ρ=aA M r ρ':=by simp [rSs_0,iU,h,Out.bind]
theorem d6 {f:Fn} {M:Tab} {ds:List D} {d:D} (h1:ds.length=f.par) (h2:f.par≤f.slots) (h:aA M f.body (ds.map (fun d=>some (d,false))++List.replicate (f.slots - f.par) none)=.rt d):f.run M ds=.ok d:=by
 unfold Fn.run
 rw [if_pos ⟨h1,h2⟩,h]
theorem fn_nx {f:Fn} {M:Tab} {ds:List D} {ρ:Env} (h1:ds.length=f.par) (h2:f.par≤f.slots) (h:aA M f.body (ds.map (fun d=>some (d,false))++List.replicate (f.slots - f.par) none)=.nx ρ):f.run M ds=.ok .non:=by
 unfold Fn.run
 rw [if_pos ⟨h1,h2⟩,h]
theorem run_whl {M:Tab} {n:Nat} {c:E} {b:List S} {ρ:Env}:runS M (.whl n c b) ρ=whlL (fun ρ'=>tru1 (runE M c ρ')) (fun ρ'=>aA M b ρ') n ρ:=by rw [rS_whl]
theorem cV {M:Tab} {tg:List Nat} {one:Bool} {ik:Itk} {it:List E} {b:List S} {ρ:Env} {xs:List D} {k:Kd} (h:runI M ik it ρ=.ok (xs,k)) (hk:noBor k=true) :
  runS M (.for tg one ik it b) ρ=restO ρ (aK ρ k) (tg++asgs b) (forL (bT tg one fun ρ1=>aA M b ρ1) xs (aK ρ k)):=by
 rw [rS_for,h]
 simp [ofR,hk]
theorem cj {M:Tab} {e c:E} {tg:List Nat} {one:Bool} {ik:Itk} {it:List E} {ρ:Env} {xs ys:List D} {k:Kd} {b:Bool} (h:runI M ik it ρ=.ok (xs,k)) (hl:xs.length≤1000000)
  (hc:ca (fq ρ tg one (fun ρ1=>tru1 (runE M c ρ1)) (fun ρ1=>runE M e ρ1)) xs=.ok (ys,b)):runE M (.comp e tg one ik it c) ρ=.ok (.lst ys,if b=true then .sto [] else .bor):=by
 rw [rE_comp,h]
 simp only [R.ok_bind]
 rw [if_neg (by exact Nat.not_lt.mpr ‹_›),hc]
 rfl
theorem ar {M:Tab} {o:Op} {a b:E} {ρ:Env} {x y z:D} {k k':Kd} (h1:runE M a ρ=.ok (x,k)) (h2:runE M b ρ=.ok (y,k')) (h3:opD o x y=.ok z):runE M (.bin o a b) ρ=.ok (z,kdOf z):=by
 simp only [rE_bin,h1,h2,R.pure_eq,R.ok_bind,h3]
theorem aR {M:Tab} {i:Nat} {e:E} {ρ ρ':Env} {d:D} {k:Kd} (h1:runE M e ρ=.ok (d,k)) (h2:bP ρ i d k=some ρ'):runS M (.set i e) ρ=.nx ρ':=by
 simp only [rS_set,ofR,h1,ofO,h2]
theorem aD {M:Tab} {b:Bi} {a:E} {ρ:Env} {x z:D} {k:Kd} (h1:runE M a ρ=.ok (x,k)) (h3:biD b [x]=.ok z):runE M (.bi b [a]) ρ=.ok (z,kdOf z):=by
 simp only [rE_bi,eh,h1,h9,R.pure_eq,R.ok_bind,h3]
theorem run_if {M:Tab} {c:E} {a b:List S} {ρ:Env} {x:D} {k:Kd} {t:Bool} (h1:runE M c ρ=.ok (x,k)) (h2:truD x=.ok t):runS M (.ifs c a b) ρ=if t=true then aA M a ρ else aA M b ρ:=by
 simp only [rS_ifs,ofR,h1,h2]
theorem gG {M:Tab} {x:Str} {e:E} {r:List (Option (D × Bool))} {c:Nat} {fs:List (Str × D)} {d:D} (h:runE M e (some (.obj c fs,true)::r)=.ok (d,.sto [])) (hl:fs.length < 900) (hn:fs.lookup x=none) :
  runS M (.fset x e) (some (.obj c fs,true)::r)=.nx (some (.obj c (fs++[(x,d)]),true)::r):=by
 simp only [rS_fset,ofR,h,List.length_cons,Nat.zero_lt_succ,getElem?_pos,List.getElem_cons_zero,ownO_1,hl,hn,List.not_mem_nil,not_false_eq_true,and_self,↓reduceIte,List.foldl_nil,List.set_cons_zero]
theorem jN {M:Tab} {e:E} {ρ:Vi.Env} {d:D} {k:Kd} (h:runE M e ρ=.ok (d,k)):runS M (.expr e) ρ=.nx ρ:=by
 simp only [rS_expr,ofR,h]
theorem aI {M:Tab} {f:Nat} {as:List E} {ρ:Env} {ds:List D} {k:Kd} {d:D} (h:bY M as ρ=.ok (ds,k)) (h2:M.fn f ds=.ok d):runE M (.call f as) ρ=.ok (d,.sto []):=by
 rw [rE_call,h]
 simp only [R.ok_bind,h2,R.pure_eq]
theorem az {M:Tab} {o:Cp} {a b:E} {ρ:Env} {x y:D} {k k':Kd} {t:Bool} (h1:runE M a ρ=.ok (x,k)) (h2:runE M b ρ=.ok (y,k')) (h3:cmpD o x y=.ok t):runE M (.cmp o a b) ρ=.ok (.bl t,.sto []):=by
 rw [rE_cmp,h1]
 simp only [R.ok_bind,h2,h3,R.pure_eq]
theorem ag {M:Tab} {a:E} {r:List E} {ρ:Env} {x:D} {xs:List D} {k k':Kd} (h1:runE M a ρ=.ok (x,k)) (h2:bY M r ρ=.ok (xs,k')):bY M (a::r) ρ=.ok (x::xs,ff k k'):=by
 rw [eh,h1]
 simp only [R.ok_bind,h2,R.pure_eq]
theorem g7 {M:Tab} {i:Nat} {e:E} {ρ:Env} {l:List D} {d:D} (h:runE M e ρ=.ok (d,.sto [])) (hl:ρ[i]?=some (some (.lst l,true))) (hc:l.length < 1000000):runS M (.app i e) ρ=.nx (ρ.set i (some (.lst (l++[d]),true))):=by
 rw [rS_app,h,hl]
 simp only [ofR,ownL_1]
 rw [if_pos ⟨hc,List.not_mem_nil⟩]
 rfl
theorem g6 {M:Tab} {i:Nat} {k v:E} {ρ:Env} {d d' x y:D} {k1 k2:Kd} (h1:runE M v ρ=.ok (y,k1)) (h2:runE M k ρ=.ok (x,k2)) (hl:ρ[i]?=some (some (d,true))) (hi:y.imm=true) (hp:j8 d x y=some d'):runS M (.put i k v) ρ=.nx (ρ.set i (some (d',true))):=by
 rw [rS_put,h1,h2,hl]
 simp only [ofR]
 rw [if_pos hi,hp]
theorem run_dix {M:Tab} {a i:E} {ρ:Env} {x y d:D} {k k':Kd} (h1:runE M a ρ=.ok (x,k)) (h2:runE M i ρ=.ok (y,k')) (h3:da x y=some (some d)):runE M (.dix a i) ρ=.ok (d,immK d):=by
 rw [rE_dix,h1]
 simp only [R.ok_bind,h2,h3,R.pure_eq]
theorem run_or_t {M:Tab} {a b:E} {ρ:Env} {k:Kd} (h:runE M a ρ=.ok (.bl true,k)):runE M (.or a b) ρ=.ok (.bl true,.sto []):=by
 rw [rE_or,h]; rfl
theorem cO {M:Tab} {a b:E} {ρ:Env} {k:Kd} (h:runE M a ρ=.ok (.bl false,k)):runE M (.or a b) ρ=runE M b ρ:=by
 rw [rE_or,h]; rfl
theorem bc {M:Tab} {a b:E} {ρ:Env} {k:Kd} (h:runE M a ρ=.ok (.bl true,k)):runE M (.and a b) ρ=runE M b ρ:=by
 rw [rE_and,h]; rfl
theorem ck {M:Tab} {a b:E} {ρ:Env} {k:Kd} (h:runE M a ρ=.ok (.bl false,k)):runE M (.and a b) ρ=.ok (.bl false,.sto []):=by
 rw [rE_and,h]; rfl
theorem cU {M:Tab} {c:E} {a b:List S} {ρ:Env} {k:Kd} (h:runE M c ρ=.ok (.bl true,k)):runS M (.ifs c a b) ρ=aA M a ρ:=by
 rw [run_if h rfl,if_pos rfl]
theorem ba {M:Tab} {c:E} {a b:List S} {ρ:Env} {k:Kd} (h:runE M c ρ=.ok (.bl false,k)):runS M (.ifs c a b) ρ=aA M b ρ:=by
 rw [run_if h rfl,if_neg Bool.false_ne_true]
theorem bo {M:Tab} {ρ:Env}:aA M [] ρ=.nx ρ:=by rw [rSs_0]
theorem be {M:Tab} {s:S} {ρ ρ':Env} (h:runS M s ρ=.nx ρ'):aA M [s] ρ=.nx ρ':=(ai h).trans bo
theorem ft {M:Tab} {e:E} {ρ:Env} {d:D} {is:List Nat} (h:runE M e ρ=.ok (d,.sto is)):aA M [.ret e] ρ=.rt d:=by
 rw [iU,rS_ret,h]
 rfl
theorem j5 {ρ:Env} {i:Nat} {d:D} (h:ρ[i]?=some (some (d,true))) (hd:d.imm=false):getV ρ i=.ok (d,.sto [i]):=by
 unfold getV
 rw [h]
 show R.ok (d,if d.imm=true then Kd.sto [] else Kd.sto [i])=_
 rw [if_neg (by rw [hd]; exact Bool.false_ne_true)]
theorem cg {M:Tab} {ρ:Env} {i:Nat} {x:D × Kd} (h:getV ρ i=.ok x):runE M (.var i) ρ=.ok x:=by rw [eA]; exact h
theorem au {M:Tab} {ρ:Env}:bY M [] ρ=.ok ([],.sto []):=by rw [h9]
theorem run_tup {M:Tab} {as:List E} {ρ:Env} {ds:List D} {k:Kd} (h:bY M as ρ=.ok (ds,k)) (hl:ds.length≤1000000):runE M (.tup as) ρ=.ok (.tup ds,k):=by
 rw [rE_tup,h]
 simp only [R.ok_bind]
 rw [if_pos hl]
 rfl
theorem dr {M:Tab} {a:E} {ρ:Env} {t:Bool} {k:Kd} (h:runE M a ρ=.ok (.bl t,k)):runE M (.not a) ρ=.ok (.bl (!t),.sto []):=by
 rw [rE_not,h]
 rfl
theorem ss_stop {M:Tab} {s:S} {r:List S} {ρ:Env} {d:D} (h:runS M s ρ=.rt d):aA M (s::r) ρ=.rt d:=by
 rw [iU,h]
 rfl
theorem cR {ρ ρ1:Env} {tg:List Nat} {one:Bool} {c:Env→R Bool} {e:Env→R (D × Kd)} {d:D} {y:D × Kd} (hb:bv (inComp ρ tg) tg one d .old=some ρ1) (hc:c ρ1=.ok true) (he:e ρ1=.ok y):fq ρ tg one c e d=.ok (some y):=by
 unfold fq
 rw [hb]
 simp only [hc,he]
theorem turnC_f {ρ ρ1:Env} {tg:List Nat} {one:Bool} {c:Env→R Bool} {e:Env→R (D × Kd)} {d:D} (hb:bv (inComp ρ tg) tg one d .old=some ρ1) (hc:c ρ1=.ok false):fq ρ tg one c e d=.ok none:=by
 unfold fq
 rw [hb]
 simp only [hc]
theorem jO {M:Tab} {a i:E} {ρ:Env} {x y d:D} {k k':Kd} (h1:runE M a ρ=.ok (x,k)) (h2:runE M i ρ=.ok (y,k')) (h3:da x y=some (some d)) (hi:d.imm=true):runE M (.dix a i) ρ=.ok (d,.sto []):=by
 rw [run_dix h1 h2 h3,immK,if_pos hi]
theorem eG {ρ:Env} {i:Nat} {d:D} {o:Bool} (h:ρ[i]?=some (some (d,o))) (hd:d.imm=true):getV ρ i=.ok (d,.sto []):=by
 unfold getV
 rw [h]
 show R.ok (d,if d.imm=true then Kd.sto [] else if o=true then Kd.sto [i] else .old)=_
 rw [if_pos hd]
theorem jM {M:Tab} {a i z:E} {ρ:Env} {x y w d:D} {o:Option D} {k k' k2:Kd} (h1:runE M a ρ=.ok (x,k)) (h2:runE M i ρ=.ok (y,k')) (h3:runE M z ρ=.ok (w,k2)) (h4:da x y=some o) (h5:o.getD w=d) (hi:d.imm=true):runE M (.get2 a i z) ρ=.ok (d,.sto []):=by
 rw [rE_get2,h1]
 simp only [R.ok_bind,h2,h3,h4,h5,R.pure_eq,immK,hi,if_true]
theorem whl_f {c:Env→R Bool} {f:Env→Out} {n:Nat} {ρ:Env} (h:c ρ=.ok false):whlL c f (n+1) ρ=.nx ρ:=by
 simp only [whlL,h]
theorem whl_t {c:Env→R Bool} {f:Env→Out} {n:Nat} {ρ ρ':Env} (h:c ρ=.ok true) (h2:f ρ=.nx ρ'):whlL c f (n+1) ρ=whlL c f n ρ':=by
 simp only [whlL,h,h2]
theorem gA {l:List D} (h:immL l=true):kdOf (.lst l)=.sto []:=if_pos (show (D.lst l).flat=true from h)
theorem dM {M:Tab} {o:E} {x:Str} {ρ:Env} {c:Nat} {fs:List (Str × D)} {d:D} {k:Kd} (h:runE M o ρ=.ok (.obj c fs,k)) (hl:fs.lookup x=some d):runE M (.fld o x) ρ=.ok (d,dG d k):=by
 rw [rE_fld,h]
 simp only [R.ok_bind,hl,R.pure_eq]
theorem kd_dK {l:List (Key × D)} (h:immL (l.map (·.2))=true):kdOf (.dK l)=.sto []:=if_pos (show (D.dK l).flat=true from h)
theorem eqLs_nil {f:D→D→Option Bool}:∀ l:List D,eqLs f l []=some l.isEmpty:=by
 intro x_0
 induction x_0 with
 | nil =>
  exact rfl
 | cons _ _ ih_ =>
  exact rfl
theorem ne_nil (l:List D):cmpD .ne (.lst l) (.lst [])=.ok (!l.isEmpty):=by
 show (match eqLs (eqN 7) l [] with | some k=>R.ok (!k) | none=>.bad)=_
 rw [eqLs_nil]
theorem ne_nilT (l:List D):cmpD .ne (.tup l) (.tup [])=.ok (!l.isEmpty):=by
 show (match eqLs (eqN 7) l [] with | some k=>R.ok (!k) | none=>.bad)=_
 rw [eqLs_nil]
theorem fg {M:Tab} {a i:E} {ρ:Env} {x y d:D} {k k':Kd} (h1:runE M a ρ=.ok (x,k)) (h2:runE M i ρ=.ok (y,k')) (h3:ixD x y=.ok d):runE M (.ix a i) ρ=.ok (d,dG d k):=by
 rw [rE_ix,h1]
 simp only [R.ok_bind,h2,h3,R.pure_eq]
theorem gH {M:Tab} {a:E} {ρ:Env} {x:D} {k:Kd} {xs:List D} (h:runE M a ρ=.ok (x,k)) (hx:dU .each [x]=some xs):runI M .each [a] ρ=.ok (xs,k):=by
 rw [rI_1,h]
 simp only [R.ok_bind,au,hx,R.pure_eq]
theorem ne_il {l:List Int} (h:l≠[]):(l.map D.int).isEmpty=false:=by
 cases l with
 | nil=>exact absurd rfl h
 | cons _ _=>rfl
theorem beq_no {a b:Int} (h:¬ a=b):(a == b)=false:=by
 cases q:(a == b) with
 | false=>rfl
 | true=>exact absurd (eq_of_beq q) h
theorem fz {M:Tab} {as:List E} {ρ:Env} {ds:List D} {k:Kd} (h:bY M as ρ=.ok (ds,k)) (hl:ds.length≤1000000):runE M (.lst as) ρ=.ok (.lst ds,dispK k):=by
 rw [rE_lst,h]
 simp only [R.ok_bind,if_pos hl,R.pure_eq]
end K12
namespace K12
open Vi
open PySem (Str)
theorem dW:∀ ns:List Int,immL (ns.map D.int)=true:=by
 intro x_0
 induction x_0 with
 | nil =>
  exact rfl
 | cons n r ih_ =>
  show (true && immL (r.map D.int))=true; rw [ih_]; rfl
theorem cell_at0 (ns:List Int):∃ h,dE [.lst (ns.map D.int),.int 0]=.ok (.int h):=by
 cases ns with
 | nil=>exact ⟨0,rfl⟩
 | cons n r =>
  refine ⟨n, ?_⟩
  simp only [dE,Fn.run,List.map_cons,List.length_cons,List.length_nil,Nat.zero_add,Nat.reduceAdd,dQ,Std.le_refl,and_self,↓reduceIte,List.map_nil,Nat.sub_self,List.replicate_zero,List.append_nil,iU,Out.bind,rS_ifs,ofR,rE_cmp,eA,getV,Nat.lt_add_one,getElem?_pos,List.getElem_cons_succ,List.getElem_cons_zero,D.imm,rE_bi,eh,Nat.zero_lt_succ,Bool.false_eq_true,h9,ff,List.contains_eq_mem,List.all_eq_true,Bool.not_eq_eq_eq_not,Bool.not_true,decide_eq_false_iff_not,R.pure_eq,R.ok_bind,kdOf,D.flat,kf,List.length_map,Int.natCast_add,Int.cast_ofNat_Int,cmpD_3,Int.succ_ofNat_pos,decide_true,truD,rS_ret,rE_ix,ixD,atD,dG,Int.toNat_zero,retK]
theorem fG (i:Int):hJ [.int i]=.ok (.bl true):=rfl
end K12
namespace K12
open Vi
open PySem (Str)
theorem memL_il (x:Int):∀ pool:List Int,memL (.int x) (pool.map D.int)=some (pool.any (· == x)):=by
 intro x_0
 induction x_0 with
 | nil =>
  exact rfl
 | cons p r ih_ =>
  simp [memL,atomEq,ih_]
theorem gj (x:Int) (pool:List Int):pool.any (· == x)=decide (x∈pool):=by
 by_cases h:x∈pool
 ·simp [h]
 ·simp only [h,decide_false]
  rw [List.any_eq_false]
  intro y hy e
  have:y=x:=by simpa using e
  exact h (this ▸ hy)
theorem next_free (M:Int):∀ (n:Nat) (pool:List Int) (x:Int),pool.length≤n→(n:Int) < M→∃ k:Nat,k≤n∧(x+k) % M∉pool∧∀ j:Nat,j < k→(x+j) % M∈pool:=by
 intro x_0
 induction x_0 with
 | zero =>
  intro pool x h _
  have:pool=[]:=by cases pool with | nil=>rfl | cons _ _=>simp at h
  exact ⟨0,Nat.le_refl _,by rw [this]; simp,fun j hj=>by exact absurd ‹_ < _› (Nat.not_lt_zero _)⟩
 | succ n ih_ =>
  intro pool x h hM
  by_cases hx:x % M∈pool
  ·have hl:(pool.filter (fun y=>decide (y≠x % M))).length≤n:=by
    have h1:=List.length_filter_lt_length_iff_exists (l:=pool) (p:=fun y=>decide (y≠x % M))
    have:(pool.filter (fun y=>decide (y≠x % M))).length < pool.length:=h1.mpr ⟨x % M,hx,by simp⟩
    (clear hM hx h1; omega)
   refine zz fun P_ k_=>?_
   obtain ⟨k,hk,hn,ha⟩:=ih_ _ (x+1) hl (by exact Int.le_of_lt ‹_›)
   refine k_ ?_
   refine ⟨k+1,by exact Nat.lt_succ_of_le ‹_›,fun z=>hn ?_,fun j hj=>?_⟩
   ·rw [List.mem_filter]
    have e:x+((k+1:Nat):Int)=x+1+k:=by (clear h hM hx hl hk hn ha z; omega)
    rw [e] at z
    refine ⟨z, ?_⟩
    simp only [decide_eq_true_eq]
    intro q
    have h0:(x+1+k - x) % M=0:=Int.emod_eq_zero_of_dvd (Int.dvd_of_emod_eq_zero (Int.emod_emod_of_dvd _ (Int.dvd_refl M) ▸ by
     have:=Int.emod_emod_of_dvd (x+1+k - x) (Int.dvd_refl M)
     rw [Int.sub_emod,q,Int.sub_self]; rfl))
    have e2:x+1+k - x=((k+1:Nat):Int):=by (clear h hM hx hl hk hn ha z e q h0; omega)
    rw [e2,Int.emod_eq_of_lt (by exact Int.natCast_nonneg _) (by (clear h hx hl hn ha z e q h0 e2; omega))] at h0
    (clear h hM hx hl hk hn ha z e q e2; omega)
   ·cases j with
    | zero=>simpa using hx
    | succ j =>
     have:=ha j (by exact Nat.le_of_lt_succ ‹_›)
     rw [List.mem_filter] at this
     have e:x+((j+1:Nat):Int)=x+1+j:=by (clear h hM hx hl hk hn ha hj this; omega)
     rw [e]
     exact this.1
  ·exact ⟨0,by exact Nat.le_trans (Nat.le_add_left _ _) ‹_›,by simpa using hx,fun j hj=>by exact absurd ‹_ < _› (Nat.not_lt_zero _)⟩
noncomputable abbrev MM:Int:=1000000000000000000000000000000000000000000000000000000000000
theorem loop_to {M:Int} (hM:0 < M) (c:Env→R Bool) (f:Env→Out) (env:Int→Env) (pool:List Int) (hc:∀ x,c (env x)=.ok (decide (x∈pool))) (hf:∀ x,f (env x)=.nx (env ((x+1) % M))) :
  ∀ (k n:Nat) (x:Int),0≤x→x < M→k < n→(x+k) % M∉pool→(∀ j:Nat,j < k→(x+j) % M∈pool)→whlL c f n (env x)=.nx (env ((x+k) % M)):=by
 intro k
 induction k with
 | zero =>
  intro n x h0 h1 hk hn _
  have e:(x+((0:Nat):Int)) % M=x:=by rw [Int.emod_eq_of_lt (by (clear hM hc hf h1 hk hn; omega)) (by (clear hM hc hf h0 hk hn; omega))]; (clear hM hc hf h0 h1 hk hn; omega)
  rw [e] at hn ⊢
  cases n with
  | zero=>exact absurd ‹_ < _› (Nat.not_lt_zero _)
  | succ n=>simp [whlL,hc,hn]
 | succ k ih =>
  intro n x h0 h1 hk hn ha
  have hx:=ha 0 (by exact Nat.succ_pos _)
  have e:(x+((0:Nat):Int)) % M=x:=by rw [Int.emod_eq_of_lt (by (clear hM hc hf ih h1 hk hn ha hx; omega)) (by (clear hM hc hf ih h0 hk hn ha hx; omega))]; (clear hM hc hf ih h0 h1 hk hn ha hx; omega)
  rw [e] at hx
  have step:∀ j:Nat,((x+1) % M+j) % M=(x+((j+1:Nat):Int)) % M:=fun j=>by
   rw [Int.emod_add_emod]
   congr 1
   (clear hM hc hf ih h0 h1 hk hn ha hx e; omega)
  cases n with
  | zero=>exact absurd ‹_ < _› (Nat.not_lt_zero _)
  | succ n =>
   have:=ih n ((x+1) % M) (Int.emod_nonneg _ (by (clear hc hf ih h0 h1 hn ha hx e step hk; omega))) (Int.emod_lt_of_pos _ hM) (by exact Nat.le_of_lt_succ ‹_›) (by rw [step]; exact hn) (fun j hj=>by rw [step]; exact ha (j+1) (by exact Nat.lt_succ_of_le ‹_›))
   simp only [whlL,hc,hx,decide_true,hf]
   rw [this,step]
theorem ix_mod (n:Int) (pool:List Int) (hp:pool≠[]):∃ v∈pool,ixD (.lst (pool.map D.int)) (.int (n % (pool.length:Int)))=.ok (.int v):=by
 have hlen:(0:Int) < (pool.length:Int):=by
  cases pool with
  | nil=>exact absurd rfl hp
  | cons p r=>rw [List.length_cons]; (clear hp; omega)
 have i1:=Int.emod_nonneg n (show (pool.length:Int)≠0 by (clear hp; omega))
 have i2:=Int.emod_lt_of_pos n hlen
 have hlt:(n % (pool.length:Int)).toNat < pool.length:=by (clear hp i1; omega)
 refine ⟨pool[(n % (pool.length:Int)).toNat],List.getElem_mem hlt, ?_⟩
 simp only [ixD,atD,List.length_map]
 rw [if_pos i1,if_pos i2]
 simp only [List.getElem?_map,List.getElem?_eq_getElem hlt,Option.map_some]
theorem sign_eq (c:Int) (pool:List Int) (hl:pool.length≤1000):∃ s,r_sign [.int c,.lst (pool.map D.int)]=.ok (.int s)∧s∉pool:=by
 have hpow:opD .pow (.int 10) (.int 60)=.ok (.int MM):=rfl
 have pw:∀ ρ,runE t0 (.bin .pow (.int 10) (.int 60)) ρ=.ok (.int MM,.sto []):=fun ρ=>ar (x:=.int 10) (y:=.int 60) rfl rfl hpow
 have h1:runS t0 (dk.body.getD 0 .pass) [some (.int c,false),some (.lst (pool.map D.int),false),none,none]=.nx [some (.int c,false),some (.lst (pool.map D.int),false),some (.int (c / 4),true),none]:=aR (ar (x:=.int c) rfl (y:=.int 4) rfl (opD_4 c 4)) rfl
 generalize c / 4=q at h1
 have e4:c % 4=0∨c % 4=1∨c % 4=2∨c % 4=3:=by (clear hl hpow pw h1; omega)
 have m4:∀ a b,runE t0 (.bin .mod (.var 0) (.int 4)) [some (.int c,false),some (.lst (pool.map D.int),false),a,b]=.ok (.int (c % 4),.sto []):=fun a b=>ar (x:=.int c) rfl (y:=.int 4) rfl (d5 c 4)
 have h2:∃ x,0≤x∧x < MM∧runS t0 (dk.body.getD 1 .pass) [some (.int c,false),some (.lst (pool.map D.int),false),some (.int q,true),none]=.nx [some (.int c,false),some (.lst (pool.map D.int),false),some (.int q,true),some (.int x,true)]:=by
  have a1:=Int.emod_nonneg q (show (40:Int)≠0 by decide)
  have a2:=Int.emod_lt_of_pos q (show (0:Int) < 40 by decide)
  have b1:=Int.emod_nonneg q (show (1000:Int)≠0 by decide)
  have b2:=Int.emod_lt_of_pos q (show (0:Int) < 1000 by decide)
  have big:(1000:Int) < MM:=by decide
  have q40:∀ ρ:Env,runE t0 (.var 2) ρ=.ok (.int q,.sto [])→runE t0 (.bin .mod (.var 2) (.int 40)) ρ=.ok (.int (q % 40),.sto []):=fun ρ h=>ar h (y:=.int 40) rfl (d5 q 40)
  have L:runE t0 (.lst [(.bin .mod (.var 2) (.int 40)),(.bin .mod (.var 2) (.bin .pow (.int 10) (.int 60))),(.bin .sub (.bin .sub (.bin .pow (.int 10) (.int 60)) (.int 1)) (.bin .mod (.var 2) (.int 40))),(.bin .mod (.var 2) (.int 1000))]) [some (.int c,false),some (.lst (pool.map D.int),false),some (.int q,true),none]=.ok (.lst [.int (q % 40),.int (q % MM),.int (MM - 1 - q % 40),.int (q % 1000)],.sto []) :=
   fz (ag (q40 _ rfl) (ag (ar (a:=.var 2) (x:=.int q) (k:=.sto []) rfl (pw _) (d5 q MM)) (ag (ar (ar (pw _) (b:=.int 1) (y:=.int 1) (k':=.sto []) rfl (opD_2 MM 1)) (q40 _ rfl) (opD_2 _ _)) (ag (ar (a:=.var 2) (x:=.int q) (k:=.sto []) rfl (b:=.int 1000) (y:=.int 1000) (k':=.sto []) rfl (d5 q 1000)) au)))) (show (4:Nat)≤1000000 by decide)
  have go:∀ {v:Int},ixD (.lst [.int (q % 40),.int (q % MM),.int (MM - 1 - q % 40),.int (q % 1000)]) (.int (c % 4))=.ok (.int v)→runS t0 (dk.body.getD 1 .pass) [some (.int c,false),some (.lst (pool.map D.int),false),some (.int q,true),none]=.nx [some (.int c,false),some (.lst (pool.map D.int),false),some (.int q,true),some (.int v,true)]:=fun h=>aR (fg L (m4 _ _) h) rfl
  rcases e4 with e | e | e | e
  ·exact ⟨q % 40,a1,Int.lt_trans a2 (by decide),go (by rw [e]; rfl)⟩
  ·exact ⟨q % MM,Int.emod_nonneg _ (by decide),Int.emod_lt_of_pos _ (by decide),go (by rw [e]; rfl)⟩
  ·refine ⟨MM - 1 - q % 40, ?_, ?_,go (by rw [e]; rfl)⟩
   ·show (0:Int)≤1000000000000000000000000000000000000000000000000000000000000 - 1 - q % 40
    (clear hl hpow pw h1 m4 b1 b2 big q40 L go e a1; omega)
   ·show (1000000000000000000000000000000000000000000000000000000000000:Int) - 1 - q % 40 < 1000000000000000000000000000000000000000000000000000000000000
    (clear hl hpow pw h1 m4 b1 b2 big q40 L go e a2; omega)
  ·exact ⟨q % 1000,b1,Int.lt_trans b2 big,go (by rw [e]; rfl)⟩
 obtain ⟨x,hx0,hx1,h2⟩:=h2
 have h3:∃ y,0≤y∧y < MM∧runS t0 (dk.body.getD 2 .pass) [some (.int c,false),some (.lst (pool.map D.int),false),some (.int q,true),some (.int x,true)]=.nx [some (.int c,false),some (.lst (pool.map D.int),false),some (.int q,true),some (.int y,true)]:=by
  have c1:runE t0 (.cmp .eq (.bin .mod (.var 0) (.int 4)) (.int 3)) [some (.int c,false),some (.lst (pool.map D.int),false),some (.int q,true),some (.int x,true)]=.ok (.bl (c % 4 == 3),.sto []):=az (m4 _ _) (y:=.int 3) rfl rfl
  have c2:runE t0 (.cmp .ne (.var 1) (.lst [])) [some (.int c,false),some (.lst (pool.map D.int),false),some (.int q,true),some (.int x,true)]=.ok (.bl (!(pool.map D.int).isEmpty),.sto []):=az (x:=.lst (pool.map D.int)) rfl (y:=.lst []) rfl (ne_nil _)
  cases e3:(c % 4 == 3) with
  | false =>
   rw [e3] at c1
   exact ⟨x,hx0,hx1,(ba (ck c1)).trans bo⟩
  | true =>
   rw [e3] at c1
   by_cases hp:pool=[]
   ·rw [show (!(pool.map D.int).isEmpty)=false by rw [hp]; rfl] at c2
    exact ⟨x,hx0,hx1,(ba ((bc c1).trans c2)).trans bo⟩
   ·rw [ne_il hp] at c2
    obtain ⟨v,_,hix⟩:=ix_mod q pool hp
    have hlen:(0:Int) < (pool.length:Int):=Int.natCast_pos.mpr (List.length_pos_iff.mpr hp)
    have lenE:runE t0 (.bi .len [(.var 1)]) [some (.int c,false),some (.lst (pool.map D.int),false),some (.int q,true),some (.int x,true)]=.ok (.int (pool.length:Int),.sto []):=aD (x:=.lst (pool.map D.int)) rfl (by rw [kf,List.length_map])
    have hmod:opD .mod (.int q) (.int (pool.length:Int))=.ok (.int (q % (pool.length:Int))):=by rw [d5,if_pos hlen]
    exact ⟨(v+q / 60 % 3 - 1) % MM,Int.emod_nonneg _ (by decide),Int.emod_lt_of_pos _ (by decide),(cU ((bc c1).trans c2)).trans (be (aR (ar (ar (ar (fg (a:=.var 1) (x:=.lst (pool.map D.int)) (k:=.old) rfl (ar (a:=.var 2) (x:=.int q) rfl lenE hmod) hix) (ar (ar (x:=.int q) rfl (y:=.int 60) rfl (opD_4 q 60)) (y:=.int 3) rfl (d5 _ 3)) (opD_1 _ _)) (y:=.int 1) rfl (opD_2 _ 1)) (pw _) (d5 _ MM)) rfl))⟩
 obtain ⟨y,hy0,hy1,h3⟩:=h3
 obtain ⟨k,hk,hn,ha⟩:=next_free MM 1000 pool y hl (by decide)
 have h4:runS t0 (dk.body.getD 3 .pass) [some (.int c,false),some (.lst (pool.map D.int),false),some (.int q,true),some (.int y,true)]=.nx [some (.int c,false),some (.lst (pool.map D.int),false),some (.int q,true),some (.int ((y+k) % MM),true)]:=by
  show runS t0 (.whl 1000000 _ _) _=_
  rw [run_whl]
  refine loop_to (M:=MM) (by decide) _ _ (fun z=>[some (.int c,false),some (.lst (pool.map D.int),false),some (.int q,true),some (.int z,true)]) pool (fun z=>?_) (fun z=>?_) k 1000000 y hy0 hy1 (by exact Nat.lt_of_le_of_lt ‹_› (by decide)) hn ha
  ·have hm:cmpD .mem (.int z) (.lst (pool.map D.int))=.ok (decide (z∈pool)):=by
    show (match memL (.int z) (pool.map D.int) with | some k=>R.ok k | none=>.bad)=_
    rw [memL_il,gj]
   rw [az (x:=.int z) rfl (y:=.lst (pool.map D.int)) rfl hm]
   rfl
  ·exact be (aR (ar (ar (x:=.int z) rfl (y:=.int 1) rfl (opD_1 z 1)) (pw _) (d5 _ MM)) rfl)
 exact ⟨(y+k) % MM,d6 rfl (by decide) ((ai h1).trans ((ai h2).trans ((ai h3).trans ((ai h4).trans (ft (is:=[]) rfl))))),hn⟩
end K12
namespace K12
open Vi
open PySem (Str)
theorem rank_eq (n:Int):∃ r,r_rank [.int n]=.ok (.int r):=by
 have e:n % 3=0∨n % 3=1∨n % 3=2:=by omega
 have h:∃ v:Int,0 < v∧ixD (.lst [.int 4,.int 999,.int 12]) (.int (n % 3))=.ok (.int v):=by
  rcases e with e | e | e
  ·rw [e]; exact ⟨4,by decide,rfl⟩
  ·rw [e]; exact ⟨999,by decide,rfl⟩
  ·rw [e]; exact ⟨12,by decide,rfl⟩
 obtain ⟨v,h0,hv⟩:=h
 exact ⟨_,d6 rfl (by decide) (ft (is:=[]) (ar (x:=.int 1) rfl (ar (ar (x:=.int n) rfl (y:=.int 3) rfl (opD_4 n 3)) (fg (x:=.lst [.int 4,.int 999,.int 12]) (k:=.sto []) rfl (ar (x:=.int n) rfl (y:=.int 3) rfl (d5 n 3)) hv) (by rw [d5,if_pos h0])) (opD_1 _ _)))⟩
theorem row_eq (n:Int) (pool:List Int) (hp:pool≠[]) (hl:pool.length≤1000):∃ row:List Int,r_row [.int n,.lst (pool.map D.int)]=.ok (.tup (row.map D.int))∧(∀ x∈row,x∈pool)∧(row.length=1∨row.length=2):=by
 have hlen:(0:Int) < (pool.length:Int):=by
  cases pool with
  | nil=>exact absurd rfl hp
  | cons p r=>rw [List.length_cons]; (clear hp hl; omega)
 have hlen2:(pool.length:Int) < 1073741824:=by (clear hp hlen; omega)
 obtain ⟨v,hv,e1⟩:=ix_mod (n / 4) pool hp
 obtain ⟨u,hu,e2⟩:=ix_mod (n / 4 / (pool.length:Int)) pool hp
 have lenE:∀ a b,runE t0 (.bi .len [(.var 1)]) [some (.int n,false),some (.lst (pool.map D.int),false),a,b]=.ok (.int (pool.length:Int),.sto []):=fun a b=>aD (x:=.lst (pool.map D.int)) rfl (by rw [kf,List.length_map])
 have hmod:∀ q:Int,opD .mod (.int q) (.int (pool.length:Int))=.ok (.int (q % (pool.length:Int))):=fun q=>by rw [d5,if_pos hlen]
 have hdiv:∀ q:Int,opD .fdiv (.int q) (.int (pool.length:Int))=.ok (.int (q / (pool.length:Int))):=fun q=>by rw [opD_4,if_pos ⟨hlen,hlen2⟩]
 have n4:∀ a b,runE t0 (.bin .fdiv (.var 0) (.int 4)) [some (.int n,false),some (.lst (pool.map D.int),false),a,b]=.ok (.int (n / 4),.sto []):=fun a b=>ar (x:=.int n) rfl (y:=.int 4) rfl (opD_4 n 4)
 have s0:runS t0 (iH.body.getD 0 .pass) [some (.int n,false),some (.lst (pool.map D.int),false),none,none]=.nx [some (.int n,false),some (.lst (pool.map D.int),false),some (.int v,true),none] :=
  aR (fg (a:=.var 1) (x:=.lst (pool.map D.int)) (k:=.old) rfl (ar (n4 _ _) (lenE _ _) (hmod _)) e1) rfl
 have s1:runS t0 (iH.body.getD 1 .pass) [some (.int n,false),some (.lst (pool.map D.int),false),some (.int v,true),none]=.nx [some (.int n,false),some (.lst (pool.map D.int),false),some (.int v,true),some (.int u,true)] :=
  aR (fg (a:=.var 1) (x:=.lst (pool.map D.int)) (k:=.old) rfl (ar (ar (n4 _ _) (lenE _ _) (hdiv _)) (lenE _ _) (hmod _)) e2) rfl
 have c:runE t0 (.cmp .eq (.bin .mod (.var 0) (.int 4)) (.int 0)) [some (.int n,false),some (.lst (pool.map D.int),false),some (.int v,true),some (.int u,true)]=.ok (.bl (n % 4 == 0),.sto []):=az (ar (x:=.int n) rfl (y:=.int 4) rfl (d5 n 4)) (y:=.int 0) rfl rfl
 cases h4:(n % 4 == 0) with
 | true =>
  rw [h4] at c
  refine ⟨[v],d6 rfl (by decide) ?_,fun z hz=>by rw [List.mem_singleton.mp hz]; exact hv,.inl rfl⟩
  exact (ai s0).trans ((ai s1).trans (ss_stop ((cU c).trans (ft (is:=[]) rfl))))
 | false =>
  rw [h4] at c
  refine ⟨[v,u],d6 rfl (by decide) ?_,fun z hz=>?_,.inr rfl⟩
  ·exact (ai s0).trans ((ai s1).trans ((ai ((ba c).trans bo)).trans (ft (is:=[]) rfl)))
  ·rcases List.mem_cons.mp hz with z1 | z1
   ·rw [z1]; exact hv
   ·rw [List.mem_singleton.mp z1]; exact hu
section
variable {κ:Type} [DecidableEq κ]
theorem bn {p:κ × D} {r:List (κ × D)} {k:κ} (e:p.1=k):valD (p::r) k=some p.2:=by simp [valD,List.find?_cons,e]
theorem aZ {p:κ × D} {r:List (κ × D)} {k:κ} (e:¬ p.1=k):valD (p::r) k=valD r k:=by simp [valD,List.find?_cons,e]
theorem fH (k:κ):∀ kvs:List (κ × D),(kvs.any fun kv=>decide (kv.1=k))=(valD kvs k).isSome:=by
 intro x_0
 induction x_0 with
 | nil =>
  exact rfl
 | cons p r ih_ =>
  rw [List.any_cons]
  by_cases e:p.1=k
  ·simp only [bn e,decide_eq_true e,Bool.true_or,Option.isSome_some]
  ·rw [aZ e,decide_eq_false e,Bool.false_or]; exact ih_
theorem valD_map (k j:κ) (y:D):∀ kvs:List (κ × D),valD (kvs.map fun kv=>if kv.1=k then (kv.1,y) else kv) j=(valD kvs j).map fun x=>if j=k then y else x:=by
 intro x_0
 induction x_0 with
 | nil =>
  exact rfl
 | cons p r ih_ =>
  have ih:=ih_
  rw [List.map_cons]
  by_cases h:p.1=k
  ·rw [if_pos h]
   by_cases e:p.1=j
   ·rw [bn (p:=(p.1,y)) e,bn e,Option.map_some,if_pos (e.symm.trans h)]
   ·rw [aZ (p:=(p.1,y)) e,aZ e,ih]
  ·rw [if_neg h]
   by_cases e:p.1=j
   ·rw [bn (p:=p) e,bn e,Option.map_some,if_neg (fun z=>h (e.trans z))]
   ·rw [aZ (p:=p) e,aZ e,ih]
theorem valD_snoc (k j:κ) (y:D):∀ kvs:List (κ × D),valD kvs k=none→valD (kvs++[(k,y)]) j=if j=k then some y else valD kvs j:=by
 intro x_0
 induction x_0 with
 | nil =>
  intro _
  by_cases e:k=j
  ·rw [if_pos e.symm]; exact bn (p:=(k,y)) e
  ·rw [if_neg (fun z=>e z.symm)]; exact aZ (p:=(k,y)) e
 | cons p r ih_ =>
  intro hn
  rw [List.cons_append]
  have hk:¬ p.1=k:=fun z=>by rw [bn z] at hn; injection hn
  rw [aZ hk] at hn
  have ih:=ih_ hn
  by_cases e:p.1=j
  ·rw [bn e,bn e,if_neg (fun z=>hk (e.trans z))]
  ·rw [aZ e,aZ e,ih]
theorem eO (kvs:List (κ × D)) (k j:κ) (y:D):valD (putD kvs k y) j=if j=k then some y else valD kvs j:=by
 unfold putD
 by_cases a:(kvs.any fun kv=>decide (kv.1=k))=true
 ·rw [if_pos a,valD_map]
  rw [fH] at a
  by_cases e:j=k
  ·obtain ⟨x,hx⟩:=Option.isSome_iff_exists.mp a
   rw [if_pos e,e,hx,Option.map_some,if_pos rfl]
  ·rw [if_neg e]
   cases valD kvs j with
   | none=>rfl
   | some x=>rw [Option.map_some,if_neg e]
 ·rw [if_neg a]
  refine valD_snoc k j y kvs ?_
  rw [fH] at a
  cases q:valD kvs k with
  | none=>rfl
  | some x=>rw [q] at a; exact (a rfl).elim
theorem gJ (kvs:List (κ × D)) (k:κ) (v:D):(putD kvs k v).length≤kvs.length+1:=by
 unfold putD
 split
 ·rw [List.length_map]; exact Nat.le_add_right _ _
 ·rw [List.length_append,List.length_cons,List.length_nil]; exact Nat.le_refl _
theorem gI {kvs:List (κ × D)} {k:κ} (v:D) (h:valD kvs k=none):putD kvs k v=kvs++[(k,v)]:=by
 unfold putD
 rw [fH,h]
 exact if_neg (by decide)
theorem valD_none {kvs:List (κ × D)} {k:κ}:valD kvs k=none↔k∉kvs.map (·.1):=by
 constructor
 ·intro h m
  obtain ⟨p,hp,e⟩:=List.mem_map.mp m
  have q:(kvs.any fun kv=>decide (kv.1=k))=true:=List.any_eq_true.mpr ⟨p,hp,decide_eq_true e⟩
  rw [fH,h] at q
  exact absurd q (by simp)
 ·intro h
  cases q:valD kvs k with
  | none=>rfl
  | some x =>
   have:(kvs.any fun kv=>decide (kv.1=k))=true:=by rw [fH,q]; rfl
   obtain ⟨p,hp,e⟩:=List.any_eq_true.mp this
   exact absurd (List.mem_map.mpr ⟨p,hp,of_decide_eq_true e⟩) h
end
end K12
namespace K12
open Vi
open PySem (Str)
theorem cP {α:Type} {f:Env→D→Out} (I:List α→Env→Prop) (g:α→D):∀ (post pre:List α) (ρ:Env),I pre ρ→(∀ p x q ρ,pre++post=p++x::q→I p ρ→∃ ρ',f ρ (g x)=.nx ρ'∧I (p++[x]) ρ') →
  ∃ ρ',forL f (post.map g) ρ=.nx ρ'∧I (pre++post) ρ':=by
 intro x_0
 induction x_0 with
 | nil =>
  intro pre ρ h0 _
  exact ⟨ρ,rfl,by simpa using h0⟩
 | cons x post ih_ =>
  intro pre ρ h0 step
  obtain ⟨ρ1,e1,h1⟩:=step pre x post ρ rfl h0
  obtain ⟨ρ',e2,h2⟩:=ih_ (pre++[x]) ρ1 h1 (fun p y q ρ e=>step p y q ρ (by simpa using e))
  refine ⟨ρ', ?_,by simpa using h2⟩
  rw [List.map_cons]
  simp only [forL,e1]
  exact e2
noncomputable abbrev oi (w:Option Int):Option (D × Bool):=w.map fun i=>(D.int i,true)
noncomputable abbrev envN (ns:List Int) (seen:List (Key × D)) (w:Option Int):Vi.Env:=[some (.lst (ns.map D.int),false),some (.dK seen,true),some (.lst [],true),oi w]
theorem gl (ns:List Int) (hn:ns.Nodup) (hl:ns.length≤1000):dD [.lst (ns.map D.int)]=.ok (.lst []):=by
 obtain ⟨ρ',e,seen,w,q,_⟩:=cP (f:=bT [3] true fun ρ1=>aA t0 [.ifs (.cmp .mem (.var 3) (.var 1)) [.app 2 (.var 3)] [],.put 1 (.var 3) (.bl true)] ρ1)
  (fun pre ρ=>∃ seen w,ρ=envN ns seen w∧(∀ k:Int,valD seen (.inl k)≠none→k∈pre)∧seen.length≤pre.length) D.int ns []
  (envN ns [] none) ⟨[],none,rfl,fun k h=>absurd rfl h,Nat.le_refl _⟩ (by
   intro p x q ρ e hh
   obtain ⟨seen,w,er,hs,hl'⟩:=hh
   subst er
   have e:ns=p++x::q:=e
   have hx:x∉p:=fun z=>by
    rw [e] at hn
    exact (List.nodup_append.mp hn).2.2 x z x List.mem_cons_self rfl
   have hv:valD seen (Sum.inl x:Key)=none:=Classical.byContradiction fun z=>hx (hs x z)
   have hp:p.length≤1000:=by
    rw [e,List.length_append] at hl
    exact Nat.le_trans (Nat.le_add_right _ _) hl
   have c:runE t0 (.cmp .mem (.var 3) (.var 1)) (envN ns seen (some x))=.ok (.bl (valD seen (Sum.inl x:Key)).isSome,.sto []):=az rfl rfl rfl
   rw [hv] at c
   refine ⟨_,(ai ((ba c).trans bo)).trans (be (g6 (d':=.dK (putD seen (.inl x) (.bl true))) rfl rfl rfl rfl (by simp only [j8,dt]; rw [if_pos (Nat.lt_of_le_of_lt (Nat.le_trans hl' hp) (by decide))]))),putD seen (.inl x) (.bl true),some x,rfl,fun k hk=>?_, ?_⟩
   ·rw [eO] at hk
    by_cases z:(Sum.inl k:Key)=Sum.inl x
    ·rw [Sum.inl.inj z]; exact List.mem_append_right _ List.mem_cons_self
    ·rw [if_neg z] at hk; exact List.mem_append_left _ (hs k hk)
   ·rw [List.length_append]
    exact Nat.le_trans (gJ seen (Sum.inl x:Key) (.bl true)) (Nat.succ_le_succ hl'))
 have hi:runI t0 .each [.var 0] (envN ns [] none)=.ok (ns.map D.int,.old):=by rw [rI_1,eA]; rfl
 have h3:runS t0 (.for [3] true .each [(.var 0)] [.ifs (.cmp .mem (.var 3) (.var 1)) [.app 2 (.var 3)] [],.put 1 (.var 3) (.bl true)]) (envN ns [] none)=.nx (envN ns seen w):=by
  rw [cV hi rfl,show aK (envN ns [] none) .old=envN ns [] none from rfl,e,q]
  cases w <;> rfl
 exact d6 rfl (by decide) ((ai (ρ':=[some (.lst (ns.map D.int),false),some (.dK [],true),none,none]) rfl).trans ((ai (ρ':=envN ns [] none) rfl).trans ((ai h3).trans rfl)))
end K12
namespace K12
open Vi
open PySem (Str)
theorem cr {α:Type} {f:D→R (Option (D × Kd))} (g h:α→D):∀ (xs:List α),(∀ x∈xs,f (g x)=.ok (some (h x,.sto [])))→ca f (xs.map g)=.ok (xs.map h,true):=by
 intro x_0
 induction x_0 with
 | nil =>
  intro _
  exact rfl
 | cons x r ih_ =>
  intro H
  rw [List.map_cons,List.map_cons]
  simp only [ca,H x List.mem_cons_self,ih_ (fun y hy=>H y (List.mem_cons_of_mem _ hy))]
theorem gq {α:Type} {f:D→R (Option (D × Kd))} (g h:α→D) (p:α→Bool):∀ (xs:List α),(∀ x∈xs,f (g x)=.ok (if p x=true then some (h x,.sto []) else none))→ca f (xs.map g)=.ok ((xs.filter p).map h,true):=by
 intro x_0
 induction x_0 with
 | nil =>
  intro _
  exact rfl
 | cons x r ih_ =>
  intro H
  have ih:=ih_ (fun y hy=>H y (List.mem_cons_of_mem _ hy))
  have hx:=H x List.mem_cons_self
  rw [List.map_cons,List.filter_cons]
  by_cases hp:p x=true
  ·rw [if_pos hp] at hx ⊢
   simp only [ca,hx,ih,List.map_cons]
  ·rw [if_neg hp] at hx ⊢
   simp only [ca,hx,ih]
noncomputable def aB (m:Int × Int):D:=.tup [.int m.1,.int m.2]
noncomputable def rowD (r:Int × List Int):D:=.tup [.int r.1,.tup (r.2.map D.int)]
theorem cI (l:List Int):(D.tup (l.map D.int)).imm=true:=by
 show immL (l.map D.int)=true
 exact dW l
theorem dP (r:Int × List Int):(rowD r).imm=true:=by
 show (true && ((D.tup (r.2.map D.int)).imm && true))=true
 rw [cI]; rfl
theorem j3 (r:Int × Int):(aB r).imm=true:=rfl
theorem df {α:Type} (g:α→D) (h:∀ x,(g x).imm=true) (l:List α):immL (l.map g)=true:=dh.mpr fun d hd=>by
 obtain ⟨x,_,e⟩:=List.mem_map.mp hd
 rw [← e]; exact h x
theorem immR (rows:List (Int × List Int)):immL (rows.map rowD)=true:=df rowD dP rows
theorem immM (rows:List (Int × Int)):immL (rows.map aB)=true:=df aB j3 rows
theorem g9 (marks:List (Int × Int)) (rows:List (Int × List Int)) (shuts:List Int) (h:(marks.map (·.1)++rows.map (·.1)).Nodup) (hs:shuts.Nodup) (l1:marks.length+rows.length≤1000) (l2:shuts.length≤1000) :
  bU [.lst (marks.map aB),.lst (rows.map rowD),.lst (shuts.map D.int)]=.ok .non:=by
 let ρ:O→O→Env:=fun a b=>[some (.lst (marks.map aB),false),some (.lst (rows.map rowD),false),some (.lst (shuts.map D.int),false),a,none,none,b]
 have c1:runE t1 (.comp (.ix (.var 4) (.int 0)) [4] true .each [(.var 0)] (.bl true)) (ρ none none)=.ok (.lst (marks.map fun m=>D.int m.1),.sto []) :=
  cj (b:=true) (xs:=marks.map aB) (k:=.old) (by rw [rI_1,eA]; rfl) (by rw [List.length_map]; exact Nat.le_trans (Nat.le_add_right _ _) (Nat.le_trans l1 (by decide))) (cr aB (fun m=>D.int m.1) marks fun m _=>cR (ρ1:=(inComp (ρ none none) [4]).set 4 (some (aB m,true))) rfl (by rw [rE_bl]; rfl) rfl)
 have c2:runE t1 (.comp (.ix (.var 5) (.int 0)) [5] true .each [(.var 1)] (.bl true)) (ρ none none)=.ok (.lst (rows.map fun m=>D.int m.1),.sto []) :=
  cj (b:=true) (xs:=rows.map rowD) (k:=.old) (by rw [rI_1,eA]; rfl) (by rw [List.length_map]; exact Nat.le_trans (Nat.le_add_left _ _) (Nat.le_trans l1 (by decide))) (cr rowD (fun m=>D.int m.1) rows fun m _=>cR (ρ1:=(inComp (ρ none none) [5]).set 5 (some (rowD m,true))) (by
    show bP _ 5 (rowD m) (dG (rowD m) .old)=_
    rw [show dG (rowD m) .old=.sto [] from if_pos (dP m)]
    rfl) (by rw [rE_bl]; rfl) (by
    rw [rE_ix,cg (eG (i:=5) rfl (dP m))]
    rfl))
 have e:(marks.map fun m=>D.int m.1)++(rows.map fun m=>D.int m.1)=(marks.map (·.1)++rows.map (·.1)).map D.int:=by rw [List.map_append,List.map_map,List.map_map]; rfl
 have h1:runS t1 (cC.body.getD 0 .pass) (ρ none none)=.nx (ρ (some (.lst ((marks.map (·.1)++rows.map (·.1)).map D.int),true)) none):=by
  have:=ar (o:=.add) c1 c2 (z:=.lst ((marks.map (·.1)++rows.map (·.1)).map D.int)) (by rw [opD_7,if_pos (by rw [List.length_map,List.length_map]; exact Nat.le_trans l1 (by decide)),e])
  rw [gA (dW _)] at this
  exact aR this rfl
 have hr1:=gl _ h (by rw [List.length_append,List.length_map,List.length_map]; exact l1)
 have hr2:=gl _ hs l2
 have h2:runS t1 (.set 6 (.bin .add (.call 0 [(.var 3)]) (.call 0 [(.var 2)]))) (ρ (some (.lst ((marks.map (·.1)++rows.map (·.1)).map D.int),true)) none)=.nx (ρ (some (.lst ((marks.map (·.1)++rows.map (·.1)).map D.int),true)) (some (.lst [],true))) :=
  aR (d:=.lst []) (k:=.sto []) (ar (aI (ds:=[.lst ((marks.map (·.1)++rows.map (·.1)).map D.int)]) rfl hr1) (aI (ds:=[.lst (shuts.map D.int)]) rfl hr2) (z:=.lst []) rfl) rfl
 exact fn_nx (ρ:=ρ (some (.lst ((marks.map (·.1)++rows.map (·.1)).map D.int),true)) (some (.lst [],true))) rfl (by decide) ((ai h1).trans ((ai h2).trans rfl))
end K12
namespace K12
open Vi
open PySem (Str)
structure bf (marks:List (Int × Int)) (rows:List (Int × List Int)) (shuts:List Int):Prop where
 nodup:(marks.map (·.1)++rows.map (·.1)).Nodup
 sh:shuts.Nodup
 two:∀ s∈shuts,∃ r,(s,r)∈rows∧r.length=2
 same:∀ s t r,(s,r)∈rows→(t,r)∈rows→r.length=2→s∉shuts→t∉shuts→s=t
 short:∀ s r,(s,r)∈rows→r.length=1∨r.length=2
 few:marks.length+rows.length≤60
 fewS:shuts.length≤60
 ahead:∃ idx:Int→Nat,∀ s r,(s,r)∈rows→∀ p∈r,p∈rows.map (·.1)→idx p < idx s
 size:∃ sz:Int→Int,(∀ s r,(s,r)∈rows→sz s=(r.map sz).sum∧sz s≤16)∧∀ p,p∉rows.map (·.1)→sz p=1
noncomputable def rowK (r:Int × List Int):Key × D:=(.inl r.1,.tup (r.2.map D.int))
theorem row_one {rows:List (Int × List Int)} (hn:(rows.map (·.1)).Nodup) {s:Int} {r r':List Int} (h:(s,r)∈rows) (h':(s,r')∈rows):r=r':=by
 induction rows with
 | nil=>cases h
 | cons x l ih =>
  rw [List.map_cons,List.nodup_cons] at hn
  rcases List.mem_cons.mp h with e | h1
  ·rcases List.mem_cons.mp h' with e' | h2
   ·rw [← e] at e'; cases e'; rfl
   ·rw [← e] at hn
    exact absurd (List.mem_map.mpr ⟨_,h2,rfl⟩) hn.1
  ·rcases List.mem_cons.mp h' with e' | h2
   ·rw [← e'] at hn
    exact absurd (List.mem_map.mpr ⟨_,h1,rfl⟩) hn.1
   ·exact ih hn.2 h1 h2
theorem valD_keys {α κ:Type} [DecidableEq κ] (f:α→κ) (g:α→D):∀ {l:List α} {x:α},(l.map f).Nodup→x∈l→valD (l.map fun a=>(f a,g a)) (f x)=some (g x):=by
 intro x_0
 induction x_0 with
 | nil =>
  intro _ _ h
  exact nomatch h
 | cons y l ih_ =>
  intro x hn h
  rw [List.map_cons,List.nodup_cons] at hn
  rw [List.map_cons]
  rcases List.mem_cons.mp h with e | h1
  ·subst e; exact bn rfl
  ·rw [aZ (fun z:f y=f x=>hn.1 (by rw [z]; exact List.mem_map.mpr ⟨x,h1,rfl⟩))]
   exact ih_ hn.2 h1
theorem ij {α:Type} (f:α→Key) (g:α→D):∀ (post pre:List α),((pre++post).map f).Nodup→im (pre.map fun a=>(f a,g a)) (post.map fun a=>(f a,g a))=(pre++post).map fun a=>(f a,g a):=by
 intro x_0
 induction x_0 with
 | nil =>
  intro pre _
  simp [im]
 | cons x post ih_ =>
  intro pre h
  have hx:f x∉pre.map f:=fun z=>by
   rw [List.map_append,List.map_cons] at h
   exact (List.nodup_append.mp h).2.2 _ z _ List.mem_cons_self rfl
  rw [List.map_cons]
  show im (putD (pre.map fun a=>(f a,g a)) (f x) (g x)) (post.map fun a=>(f a,g a))=_
  rw [gI _ (valD_none.mpr (by rw [List.map_map]; exact hx))]
  have e:(pre.map fun a=>(f a,g a))++[(f x,g x)]=(pre++[x]).map fun a=>(f a,g a):=by simp
  rw [e,ih_ (pre++[x]) (by simpa using h)]
  simp
theorem pairs_rows:∀ rows:List (Int × List Int),dc (rows.map rowD)=some (rows.map rowK):=by
 intro x_0
 induction x_0 with
 | nil =>
  exact rfl
 | cons r l ih_ =>
  rw [List.map_cons]; simp [dc,rowD,dt,ih_,rowK]
noncomputable def cY (m:Int × Int):Key × D:=(.inl m.1,.int m.2)
theorem pairs_marks:∀ rows:List (Int × Int),dc (rows.map aB)=some (rows.map cY):=by
 intro x_0
 induction x_0 with
 | nil =>
  exact rfl
 | cons r l ih_ =>
  rw [List.map_cons]; simp [dc,aB,dt,ih_,cY]
noncomputable def shutD (s:Int):D:=.tup [.int s,.bl true]
noncomputable def dq (s:Int):Key × D:=(.inl s,.bl true)
theorem pairs_shuts:∀ rows:List Int,dc (rows.map shutD)=some (rows.map dq):=by
 intro x_0
 induction x_0 with
 | nil =>
  exact rfl
 | cons r l ih_ =>
  rw [List.map_cons]; simp [dc,shutD,dt,ih_,dq]
theorem cW {l:List Int} (h:l.Nodup):(l.map (Sum.inl:Int→Key)).Nodup:=by
 rw [List.nodup_iff_pairwise_ne] at h ⊢
 rw [List.pairwise_map]
 exact h.imp fun hne e=>hne (Sum.inl.inj e)
theorem ints_il:∀ ns:List Int,jZ (ns.map D.int)=some ns:=by
 intro x_0
 induction x_0 with
 | nil =>
  exact rfl
 | cons n r ih_ =>
  rw [List.map_cons]; simp [jZ,ih_]
theorem gX (ns:List Int) (h:ns.length < 64):iR (ns.map D.int)=some ((sortI ns).map D.int):=by simp [iR,ints_il,h]
theorem cS (ns:List Int):(sortI ns).Perm ns:=List.mergeSort_perm _ _
theorem i6 {ns:List Int} (h:ns.Nodup):(sortI ns).Nodup:=(cS ns).nodup_iff.mpr h
theorem eP {ns:List Int} {x:Int}:x∈sortI ns↔x∈ns:=(cS ns).mem_iff
theorem jD (ns:List Int):(sortI ns).length=ns.length:=(cS ns).length_eq
theorem keys_il:∀ ns:List Int,cu (ns.map D.int)=some (ns.map Sum.inl):=by
 intro x_0
 induction x_0 with
 | nil =>
  exact rfl
 | cons n r ih_ =>
  rw [List.map_cons]; simp [cu,dt,ih_]
theorem inl_inj:∀ {a b:List Int},a.map (Sum.inl:Int→Key)=b.map Sum.inl→a=b:=by
 intro x_0
 induction x_0 with
 | nil =>
  intro x_1
  cases x_1 with
  | nil =>
   intro _
   exact rfl
  | cons _ _ =>
   intro e
   simp at e
 | cons x a ih_ =>
  intro x_1
  cases x_1 with
  | nil =>
   intro e
   simp at e
  | cons y b =>
   intro e
   rw [List.map_cons,List.map_cons] at e
   injection e with e1 e2
   rw [Sum.inl.inj e1,ih_ e2]
section
variable {marks:List (Int × Int)} {rows:List (Int × List Int)} {shuts:List Int} (T:bf marks rows shuts)
theorem bf.nr (T:bf marks rows shuts):(rows.map (·.1)).Nodup:=(List.nodup_append.mp T.nodup).2.1
theorem bf.nm (T:bf marks rows shuts):(marks.map (·.1)).Nodup:=(List.nodup_append.mp T.nodup).1
theorem bf.lr (T:bf marks rows shuts):rows.length≤60:=by have:=T.few; exact Nat.le_trans (Nat.le_add_left _ _) ‹_›
theorem bf.val (T:bf marks rows shuts) {s:Int} {r:List Int} (h:(s,r)∈rows):valD (rows.map rowK) (Sum.inl s:Key)=some (.tup (r.map D.int)):=by
 have hn:(rows.map fun r=>(Sum.inl r.1:Key)).Nodup:=by have:=cW T.nr; rwa [List.map_map] at this
 exact valD_keys (fun r:Int × List Int=>(Sum.inl r.1:Key)) (fun r=>.tup (r.2.map D.int)) (x:=(s,r)) hn h
theorem bf.valN (T:bf marks rows shuts) {s:Int} (h:s∉rows.map (·.1)):valD (rows.map rowK) (Sum.inl s:Key)=none:=valD_none.mpr fun z=>by
 rw [List.map_map] at z
 obtain ⟨r,hr,e⟩:=List.mem_map.mp z
 exact h (List.mem_map.mpr ⟨r,hr,Sum.inl.inj e⟩)
theorem bf.inRows (T:bf marks rows shuts) {s:Int} (h:s∈rows.map (·.1)):∃ r,(s,r)∈rows:=by
 obtain ⟨⟨s',r⟩,hr,e⟩:=List.mem_map.mp h
 subst e
 exact ⟨r,hr⟩
theorem val_shut {s:Int}:∀ {shuts:List Int},(valD (shuts.map dq) (Sum.inl s:Key)).isSome=decide (s∈shuts):=by
 intro x_0
 induction x_0 with
 | nil =>
  exact rfl
 | cons t l ih_ =>
  rw [List.map_cons]
  by_cases e:t=s
  ·subst e
   rw [bn (p:=dq t) (k:=Sum.inl t) rfl]
   simp
  ·rw [aZ (p:=dq t) (k:=Sum.inl s) (fun z=>e (Sum.inl.inj z)),ih_]
   simp [Ne.symm e]
theorem dict_rows (T:bf marks rows shuts):biD .dict [.lst (rows.map rowD)]=.ok (.dK (rows.map rowK)):=by
 have h:(([]++rows).map fun r:Int × List Int=>(Sum.inl r.1:Key)).Nodup:=by have:=cW T.nr; rwa [List.map_map] at this
 have e:=ij (fun r:Int × List Int=>(Sum.inl r.1:Key)) (fun r=>D.tup (r.2.map D.int)) rows [] h
 have hi:immL ((rows.map rowK).map (·.2))=true:=by rw [List.map_map]; exact df _ (fun r=>cI r.2) rows
 have hl:(rows.map rowK).length≤1000000:=by rw [List.length_map]; have:=T.lr; exact Nat.le_trans ‹_› (by decide)
 simp only [kb,pairs_rows]
 rw [if_pos ⟨hi,hl⟩]
 exact congrArg (fun l=>R.ok (D.dK l)) e
theorem dict_marks (T:bf marks rows shuts):biD .dict [.lst (marks.map aB)]=.ok (.dK (marks.map cY)):=by
 have h:(([]++marks).map fun r:Int × Int=>(Sum.inl r.1:Key)).Nodup:=by have:=cW T.nm; rwa [List.map_map] at this
 have e:=ij (fun r:Int × Int=>(Sum.inl r.1:Key)) (fun r=>D.int r.2) marks [] h
 have hi:immL ((marks.map cY).map (·.2))=true:=by rw [List.map_map]; exact df _ (fun r=>rfl) marks
 have hl:(marks.map cY).length≤1000000:=by rw [List.length_map]; have:=T.few; (clear T h e hi; omega)
 simp only [kb,pairs_marks]
 rw [if_pos ⟨hi,hl⟩]
 exact congrArg (fun l=>R.ok (D.dK l)) e
theorem dict_shuts (T:bf marks rows shuts):biD .dict [.lst (shuts.map shutD)]=.ok (.dK (shuts.map dq)):=by
 have h:(([]++shuts).map fun r:Int=>(Sum.inl r:Key)).Nodup:=by simpa using cW T.sh
 have e:=ij (fun r:Int=>(Sum.inl r:Key)) (fun r=>D.bl true) shuts [] h
 have hi:immL ((shuts.map dq).map (·.2))=true:=by rw [List.map_map]; exact df _ (fun r=>rfl) shuts
 have hl:(shuts.map dq).length≤1000000:=by rw [List.length_map]; have:=T.fewS; exact Nat.le_trans ‹_› (by decide)
 simp only [kb,pairs_shuts]
 rw [if_pos ⟨hi,hl⟩]
 exact congrArg (fun l=>R.ok (D.dK l)) e
theorem gW (T:bf marks rows shuts):biD .sorted [.dK (rows.map rowK)]=.ok (.lst ((sortI (rows.map (·.1))).map D.int)):=by
 have e:((rows.map rowK).map fun kv=>keyD kv.1)=(rows.map (·.1)).map D.int:=by rw [List.map_map,List.map_map]; rfl
 have hl:(rows.map (·.1)).length < 64:=by rw [List.length_map]; have:=T.lr; exact Nat.lt_of_le_of_lt ‹_› (by decide)
 simp only [gu,e,gX _ hl]
theorem no_pair_ok (T:bf marks rows shuts):bD [.dK (rows.map rowK),.lst (shuts.map D.int)]=.ok .non:=by
 let ρ:Option Int→Env:=fun w=>[some (.dK (rows.map rowK),false),some (.lst (shuts.map D.int),false),oi w]
 refine zz fun P_ k_=>?_
 obtain ⟨ρ',e,w,q⟩:=cP (f:=bT [2] true fun ρ1=>aA t0 [.ifs (.cmp .ne (.bi .len [(.get2 (.var 0) (.var 2) (.tup []))]) (.int 2)) [.raise] []] ρ1)
  (fun pre ρ0=>∃ w,ρ0=ρ w) D.int (sortI shuts) [] (ρ none) ⟨none,rfl⟩ (by
   intro p x q ρ0 e ⟨w,er⟩
   subst er
   have hx:x∈shuts:=eP.mp (by rw [show sortI shuts=p++x::q from e]; exact List.mem_append_right _ List.mem_cons_self)
   obtain ⟨r,hr,h2⟩:=T.two x hx
   have c:runE t0 (.cmp .ne (.bi .len [(.get2 (.var 0) (.var 2) (.tup []))]) (.int 2)) (ρ (some x))=.ok (.bl (!(((r.map D.int).length:Int) == 2)),.sto []) :=
    az (aD (jM (x:=.dK (rows.map rowK)) (y:=.int x) (w:=.tup []) (d:=.tup (r.map D.int)) rfl rfl rfl rfl (by rw [T.val hr]; rfl) (cI r)) rfl) rfl rfl
   rw [List.length_map,h2] at c
   exact ⟨_,be ((ba c).trans bo),some x,rfl⟩)
 refine k_ ?_
 have hi:=aD (M:=t0) (a:=.var 1) (ρ:=ρ none) (k:=.old) (b:=.sorted) (z:=.lst ((sortI shuts).map D.int)) rfl (by rw [iL,gX _ (Nat.lt_of_le_of_lt T.fewS (by decide))])
 rw [gA (dW _)] at hi
 have hI:runI t0 .each [.bi .sorted [.var 1]] (ρ none)=.ok ((sortI shuts).map D.int,.sto []):=by rw [rI_1,hi]; rfl
 refine fn_nx (ρ:=ρ w) rfl (by decide) (be ?_)
 show runS t0 (.for [2] true .each [(.bi .sorted [(.var 1)])] _) (ρ none)=_
 rw [cV hI rfl,show aK (ρ none) (.sto [])=ρ none from rfl,e,q]
 cases w <;> rfl
end
end K12
namespace K12
open Vi
open PySem (Str)
structure bJ (rows:List (Int × List Int)) (shuts:List Int) (P:Int→Prop) (found:List (List Key × D)):Prop where
 sound:∀ k v,valD found k=some v→∃ s r,P s∧(s,r)∈rows∧r.length=2∧s∉shuts∧k=r.map Sum.inl∧v=.int s
 full:∀ s r,P s→(s,r)∈rows→r.length=2→s∉shuts→valD found (r.map Sum.inl)=some (.int s)
section
variable {marks:List (Int × Int)} {rows:List (Int × List Int)} {shuts:List Int}
theorem bJ.nil:bJ rows shuts (fun s=>s∈([]:List Int)) []:=⟨fun k v h=>(nomatch h),fun s r h=>(nomatch h)⟩
theorem bJ.skip {found:List (List Key × D)} {p:List Int} {x:Int} {r:List Int} (T:bf marks rows shuts) (F:bJ rows shuts (· ∈ p) found) (hx:(x,r)∈rows) (h:¬ (r.length=2∧x∉shuts)):bJ rows shuts (· ∈ p++[x]) found:=by
 refine ⟨fun k v e=>?_,fun s r' hs hr h2 hn=>?_⟩
 ·obtain ⟨s,r,h1,h2⟩:=F.sound k v e
  exact ⟨s,r,List.mem_append_left _ h1,h2⟩
 ·rcases List.mem_append.mp hs with z | z
  ·exact F.full s r' z hr h2 hn
  ·have z:s=x:=by simpa using z
   subst z
   rw [row_one T.nr hr hx] at h2
   exact absurd ⟨h2,hn⟩ h
theorem bJ.new {found:List (List Key × D)} {p:List Int} {x:Int} {r:List Int} (T:bf marks rows shuts) (F:bJ rows shuts (· ∈ p) found) (hx:(x,r)∈rows) (hp:x∉p) (h2:r.length=2) (hn:x∉shuts):valD found (r.map Sum.inl)=none:=by
 cases e:valD found (r.map Sum.inl) with
 | none=>rfl
 | some v =>
  obtain ⟨s,r',h1,h3,h4,h5,h6,_⟩:=F.sound _ v e
  have:=inl_inj h6
  subst this
  have:=T.same s x r h3 hx h2 h5 hn
  subst this
  exact absurd h1 hp
theorem bJ.put {found:List (List Key × D)} {p:List Int} {x:Int} {r:List Int} (T:bf marks rows shuts) (F:bJ rows shuts (· ∈ p) found) (hx:(x,r)∈rows) (h2:r.length=2) (hn:x∉shuts):bJ rows shuts (· ∈ p++[x]) (putD found (r.map Sum.inl) (.int x)):=by
 refine ⟨fun k v e=>?_,fun s r' hs hr h2' hn'=>?_⟩
 ·rw [eO] at e
  by_cases z:k=r.map Sum.inl
  ·rw [if_pos z] at e
   (injection e with e; subst e)
   exact ⟨x,r,by simp,hx,h2,hn,z,rfl⟩
  ·rw [if_neg z] at e
   obtain ⟨s,r,h1,h3⟩:=F.sound k v e
   exact ⟨s,r,List.mem_append_left _ h1,h3⟩
 ·rw [eO]
  by_cases z:r'.map (Sum.inl:Int→Key)=r.map Sum.inl
  ·rw [if_pos z]
   have:=inl_inj z
   subst this
   rw [T.same s x r' hr hx h2 hn' hn]
  ·rw [if_neg z]
   rcases List.mem_append.mp hs with y | y
   ·exact F.full s r' y hr h2' hn'
   ·have y:s=x:=by simpa using y
    subst y
    rw [row_one T.nr hr hx] at z
    exact absurd rfl z
theorem found_val {f:List (List Key × D)} {P:Int→Prop} (F:bJ rows shuts P f) (k:List Key):valD f k=none∨∃ i,valD f k=some (.int i):=by
 cases e:valD f k with
 | none=>exact .inl rfl
 | some v =>
  refine zz fun P_ k_=>?_
  obtain ⟨s,_,_,_,_,_,_,h⟩:=F.sound k v e
  refine k_ ?_
  exact .inr ⟨s,by rw [h]⟩
noncomputable abbrev ot (w:Option (List Int)):Option (D × Bool):=w.map fun l=>(D.tup (l.map D.int),true)
noncomputable abbrev bodyS:List S:=match cq.body.getD 2 .pass with
 | .for _ _ _ _ b=>b
 | _=>[]
noncomputable abbrev envS (rows:List (Int × List Int)) (shuts:List Int) (found:List (List Key × D)) (a b:O):Vi.Env:=[some (.dK (rows.map rowK),false),some (.dK (shuts.map dq),false),some (.dT found,true),some (.lst [],true),a,b,none]
inductive SSt (rows:List (Int × List Int)) (shuts pre:List Int) (ρ:Vi.Env):Prop
 | mk (found:List (List Key × D)) (a b:O) (e:ρ=envS rows shuts found a b) (F:bJ rows shuts (· ∈ pre) found) (hl:found.length≤pre.length) (hi:immL (found.map (·.2))=true)
theorem turn_S (T:bf marks rows shuts) {found:List (List Key × D)} {p:List Int} {x:Int} {r:List Int} (hr:(x,r)∈rows) (hxp:x∉p) (F:bJ rows shuts (· ∈ p) found) (hl:found.length≤p.length) (hp:p.length≤100) (hi:immL (found.map (·.2))=true) (a b:O) :
  ∃ ρ',bT [4] true (fun ρ1=>aA t0 bodyS ρ1) (envS rows shuts found a b) (.int x)=.nx ρ'∧SSt rows shuts (p++[x]) ρ':=by
 have s1:runS t0 (.set 5 (.dix (.var 0) (.var 4))) (envS rows shuts found (some (.int x,true)) b)=.nx (envS rows shuts found (some (.int x,true)) (some (.tup (r.map D.int),true))) :=
  aR (jO (x:=.dK (rows.map rowK)) (y:=.int x) rfl rfl (congrArg some (T.val hr)) (cI r)) rfl
 have c1:runE t0 (.cmp .eq (.bi .len [(.var 5)]) (.int 2)) (envS rows shuts found (some (.int x,true)) (some (.tup (r.map D.int),true)))=.ok (.bl (((r.map D.int).length:Int) == 2),.sto []):=az (aD rfl rfl) rfl rfl
 have c2:runE t0 (.cmp .nmem (.var 4) (.var 1)) (envS rows shuts found (some (.int x,true)) (some (.tup (r.map D.int),true)))=.ok (.bl (!decide (x∈shuts)),.sto []):=az rfl rfl (by
  rw [cmpD_10]
  show R.ok (!(valD (shuts.map dq) (Sum.inl x:Key)).isSome)=_
  rw [val_shut])
 rw [List.length_map] at c1
 refine zv fun P_ k_=>?_
 by_cases hc:r.length=2∧x∉shuts
 ·have hnew:=F.new T hr hxp hc.1 hc.2
  rw [hc.1] at c1
  rw [decide_eq_false hc.2] at c2
  have c3:runE t0 (.cmp .mem (.var 5) (.var 2)) (envS rows shuts found (some (.int x,true)) (some (.tup (r.map D.int),true)))=.ok (.bl false,.sto []):=az rfl rfl (by
   rw [cmpD_9]
   show (match (match da (.dT found) (.tup (r.map D.int)) with | some o=>some o.isSome | none=>none) with | some k=>R.ok k | none=>.bad)=_
   simp only [da,keys_il,hnew]
   rfl)
  have s4:runS t0 (.put 2 (.var 5) (.var 4)) (envS rows shuts found (some (.int x,true)) (some (.tup (r.map D.int),true)))=.nx (envS rows shuts (putD found (r.map Sum.inl) (.int x)) (some (.int x,true)) (some (.tup (r.map D.int),true))) :=
   g6 (d':=.dT (putD found (r.map Sum.inl) (.int x))) rfl rfl rfl rfl (by simp only [j8,keys_il]; rw [if_pos (Nat.lt_of_le_of_lt (Nat.le_trans hl hp) (by decide))])
  refine k_ ⟨_,(ai s1).trans (be ((cU ((bc c1).trans c2)).trans (be ((ba c3).trans (be s4))))),_,_,_,rfl,F.put T hr hc.1 hc.2, ?_, ?_⟩
  ·rw [List.length_append]
   exact Nat.le_trans (gJ found (r.map (Sum.inl:Int→Key)) (.int x)) (Nat.succ_le_succ hl)
  ·rw [gI _ hnew,List.map_append,dh]
   intro d hd
   rcases List.mem_append.mp hd with z | z
   ·exact dh.mp hi d z
   ·rw [List.mem_singleton.mp z]; rfl
 ·have c3:runE t0 (.and (.cmp .eq (.bi .len [(.var 5)]) (.int 2)) (.cmp .nmem (.var 4) (.var 1))) (envS rows shuts found (some (.int x,true)) (some (.tup (r.map D.int),true)))=.ok (.bl false,.sto []):=by
   by_cases h2:r.length=2
   ·have hs:x∈shuts:=Classical.byContradiction fun z=>hc ⟨h2,z⟩
    rw [h2] at c1
    rw [decide_eq_true hs] at c2
    exact (bc c1).trans c2
   ·rw [show ((r.length:Int) == 2)=false from beq_eq_false_iff_ne.mpr fun z=>h2 (Int.ofNat.inj z)] at c1
    exact ck c1
  exact k_ ⟨_,(ai s1).trans (be ((ba c3).trans bo)),found,_,_,rfl,F.skip T hr hc,by rw [List.length_append]; exact Nat.le_succ_of_le hl,hi⟩
theorem gv (T:bf marks rows shuts):∃ found,bR [.dK (rows.map rowK),.dK (shuts.map dq)]=.ok (.dT found)∧bJ rows shuts (· ∈ sortI (rows.map (·.1))) found∧immL (found.map (·.2))=true:=by
 refine zz fun P_ k_=>?_
 obtain ⟨ρ',e,P⟩:=cP (f:=bT [4] true fun ρ1=>aA t0 bodyS ρ1) (SSt rows shuts) D.int (sortI (rows.map (·.1))) []
  (envS rows shuts [] none none) ⟨[],none,none,rfl,bJ.nil,Nat.le_refl _,rfl⟩ (by
   intro p x q ρ e P
   obtain ⟨found,a,b,eq,F,hl,hi⟩:=P
   subst eq
   have hnd:=i6 T.nr
   rw [show sortI (rows.map (·.1))=p++x::q from e] at hnd
   have hx:x∈rows.map (·.1):=eP.mp (by rw [show sortI (rows.map (·.1))=p++x::q from e]; exact List.mem_append_right _ List.mem_cons_self)
   obtain ⟨r,hr⟩:=T.inRows hx
   have h1:=congrArg List.length (show sortI (rows.map (·.1))=p++x::q from e)
   rw [jD,List.length_map,List.length_append] at h1
   exact turn_S T hr (fun z=>(List.nodup_append.mp hnd).2.2 x z x List.mem_cons_self rfl) F hl (Nat.le_trans (Nat.le_add_right _ _) (Nat.le_trans (Nat.le_of_eq h1.symm) (Nat.le_trans T.lr (by decide)))) hi a b)
 obtain ⟨found,a,b,q,F,_,hi⟩:=P
 refine k_ ?_
 refine ⟨found,d6 rfl (by decide) ?_,F,hi⟩
 have hI:runI t0 .each [.bi .sorted [.var 0]] (envS rows shuts [] none none)=.ok ((sortI (rows.map (·.1))).map D.int,.sto []):=by
  have hk:kdOf (.lst ((sortI (rows.map (·.1))).map D.int))=.sto []:=by unfold kdOf; rw [if_pos (show (D.lst ((sortI (rows.map (·.1))).map D.int)).flat=true from dW _)]
  rw [rI_1,aD (x:=.dK (rows.map rowK)) (k:=.old) rfl (gW T),hk]
  rfl
 have s3:runS t0 (.for [4] true .each [(.bi .sorted [(.var 0)])] bodyS) (envS rows shuts [] none none)=.nx (rest (envS rows shuts [] none none) (envS rows shuts [] none none) ρ' ([4]++asgs bodyS)):=by
  rw [cV hI rfl]
  have el:aK (envS rows shuts [] none none) (.sto [])=envS rows shuts [] none none:=rfl
  rw [el,e]
  rfl
 refine (ai (ρ':=[some (.dK (rows.map rowK),false),some (.dK (shuts.map dq),false),some (.dT [],true),none,none,none,none]) rfl).trans ((ai (ρ':=envS rows shuts [] none none) rfl).trans ((ai s3).trans ?_))
 rw [q]
 rfl
end
end K12
namespace K12
open Vi
open PySem (Str)
theorem eqLs_il {n:Nat}:∀ a b:List Int,eqLs (eqN (n+1)) (a.map D.int) (b.map D.int)=some (decide (a=b)):=by
 intro x_0
 induction x_0 with
 | nil =>
  intro x_1
  cases x_1 with
  | nil =>
   exact rfl
  | cons _ _ =>
   exact rfl
 | cons x a ih_ =>
  intro x_1
  cases x_1 with
  | nil =>
   exact rfl
  | cons y b =>
   rw [List.map_cons,List.map_cons]
   simp only [eqLs,eqN_1,eqN_2,eqN_3,eqN_4,eqN_5,eqN_6,eqN_7,eqN_8,eqN_9,eqN_10,eqN_11,eqN_12,eqN_13,eqN_14,eqN_15,eqN_16,ih_ b]
   by_cases h:x=y <;> by_cases h':a=b <;> simp [h,h']
theorem eqD_il (a b:List Int):eqD (.lst (a.map D.int)) (.lst (b.map D.int))=some (decide (a=b)):=eqLs_il (n:=6) a b
theorem eqD_tup (a b:List Int):eqD (.tup (a.map D.int)) (.tup (b.map D.int))=some (decide (a=b)):=eqLs_il (n:=6) a b
theorem sum_il:∀ l:List Int,sumD (l.map D.int)=.ok l.sum:=by
 intro x_0
 induction x_0 with
 | nil =>
  exact rfl
 | cons x l ih_ =>
  rw [List.map_cons]; simp [sumD,ih_]
theorem bools_il {α:Type} (f:α→Bool):∀ l:List α,fm (l.map fun a=>D.bl (f a))=some (l.map f):=by
 intro x_0
 induction x_0 with
 | nil =>
  exact rfl
 | cons x l ih_ =>
  rw [List.map_cons]; simp [fm,ih_]
structure UOk (rows:List (Int × List Int)) (sz:Int→Int) (L:List (Key × D)) (U:List Int):Prop where
 done:∀ s∈rows.map (·.1),s∉U→valD L (Sum.inl s:Key)=some (.int (sz s))
 not:∀ s,s∈U∨s∉rows.map (·.1)→valD L (Sum.inl s:Key)=none
 sub:∀ s∈U,s∈rows.map (·.1)
 nd:U.Nodup
 keys:∀ k∈L.map (·.1),∃ s∈rows.map (·.1),k=Sum.inl s
 len:L.length+U.length≤rows.length
section
variable {marks:List (Int × Int)} {rows:List (Int × List Int)} {shuts:List Int} {sz:Int→Int}
theorem UOk.meas {L:List (Key × D)} {h q:List Int} {x:Int} (u:UOk rows sz L (h++x::q)):UOk rows sz (putD L (.inl x) (.int (sz x))) (h++q):=by
 have hx:x∈rows.map (·.1):=u.sub x (by simp)
 have hnd:=u.nd
 have hnew:valD L (Sum.inl x:Key)=none:=u.not x (.inl (by simp))
 obtain ⟨n1,n2,n3⟩:=List.nodup_append.mp hnd
 have hxh:x∉h++q:=fun z=>by
  rcases List.mem_append.mp z with z | z
  ·exact n3 x z x List.mem_cons_self rfl
  ·exact (List.nodup_cons.mp n2).1 z
 refine ⟨fun s hs hn=>?_,fun s hs=>?_,fun s hs=>u.sub s ?_,List.nodup_append.mpr ⟨n1,(List.nodup_cons.mp n2).2,fun a ha b hb=>n3 a ha b (List.mem_cons_of_mem _ hb)⟩,fun k hk=>?_, ?_⟩
 ·rw [eO]
  by_cases e:s=x
  ·rw [if_pos (by rw [e]),e]
  ·rw [if_neg fun z=>e (Sum.inl.inj z)]
   refine u.done s hs fun z=>hn ?_
   rcases List.mem_append.mp z with z | z
   ·exact List.mem_append_left _ z
   ·rcases List.mem_cons.mp z with z | z
    ·exact absurd z e
    ·exact List.mem_append_right _ z
 ·rw [eO]
  have e:s≠x:=fun z=>by
   subst z
   rcases hs with z | z
   ·exact hxh z
   ·exact z hx
  rw [if_neg fun z=>e (Sum.inl.inj z)]
  refine u.not s (hs.imp (fun z=>?_) id)
  rcases List.mem_append.mp z with z | z
  ·exact List.mem_append_left _ z
  ·exact List.mem_append_right _ (List.mem_cons_of_mem _ z)
 ·rcases List.mem_append.mp hs with z | z
  ·exact List.mem_append_left _ z
  ·exact List.mem_append_right _ (List.mem_cons_of_mem _ z)
 ·rw [gI _ hnew,List.map_append] at hk
  rcases List.mem_append.mp hk with z | z
  ·exact u.keys k z
  ·exact ⟨x,hx,by simpa using z⟩
 ·have:=u.len
  rw [gI _ hnew]
  simp at this ⊢
  (clear u hx hnd hnew n1 n2 n3 hxh; omega)
noncomputable abbrev envL (rows:List (Int × List Int)) (L:List (Key × D)) (W:List Int) (o:Bool) (h:Option (D × Bool)) (w:Option Int) (u:Option (List Int)):Vi.Env :=
 [some (.dK (rows.map rowK),false),some (.dK L,true),some (.lst (W.map D.int),o),h,oi w,ot u,none]
noncomputable abbrev bodyR:List S:=[.set 5 (.dix (.var 0) (.var 4)),.ifs (.bi .any [(.comp (.and (.cmp .mem (.var 6) (.var 0)) (.cmp .nmem (.var 6) (.var 1))) [6] true .each [(.var 5)] (.bl true))]) [.app 3 (.var 4)] [.put 1 (.var 4) (.bi .sum [(.comp (.get2 (.var 1) (.var 6) (.int 1)) [6] true .each [(.var 5)] (.bl true))])]]
theorem turn_len {L:List (Key × D)} {W held q:List Int} {x:Int} {r:List Int} {w:Option Int} {u:Option (List Int)} (T:bf marks rows shuts) (hsz:∀ p,p∉rows.map (·.1)→sz p=1) (hx:(x,r)∈rows) (hs:sz x=(r.map sz).sum) (hr:r.length≤2)
  (U:UOk rows sz L (held++x::q)) :
  bT [4] true (fun ρ1=>aA t0 bodyR ρ1)
   (envL rows L W false (some (.lst (held.map D.int),true)) w u) (.int x) =
   if r.any (fun z=>decide (z∈held++x::q))=true then .nx (envL rows L W false (some (.lst ((held++[x]).map D.int),true)) (some x) (some r))
   else .nx (envL rows (putD L (.inl x) (.int (sz x))) W false (some (.lst (held.map D.int),true)) (some x) (some r)):=by
 have hl:=Nat.le_trans U.len T.lr
 rw [List.length_append,List.length_cons] at hl
 have part:∀ z:Int,((valD (rows.map rowK) (Sum.inl z:Key)).isSome && !(valD L (Sum.inl z:Key)).isSome)=decide (z∈held++x::q):=fun z=>by
  by_cases h1:z∈rows.map (·.1)
  ·obtain ⟨rz,hrz⟩:=T.inRows h1
   rw [T.val hrz]
   by_cases h2:z∈held++x::q
   ·rw [U.not z (.inl h2),decide_eq_true h2]; rfl
   ·rw [U.done z h1 h2,decide_eq_false h2]; rfl
  ·rw [T.valN h1,decide_eq_false fun y=>h1 (U.sub z y)]
   rfl
 let ρ1:Vi.Env:=envL rows L W false (some (.lst (held.map D.int),true)) (some x) (some r)
 have hset:runS t0 (.set 5 (.dix (.var 0) (.var 4))) (envL rows L W false (some (.lst (held.map D.int),true)) (some x) u)=.nx ρ1 :=
  aR (jO (x:=.dK (rows.map rowK)) (y:=.int x) rfl rfl (congrArg some (T.val hx)) (cI r)) rfl
 have hI:runI t0 .each [.var 5] ρ1=.ok (r.map D.int,.sto []):=by
  rw [rI_1,cg (eG (i:=5) rfl (cI r))]
  rfl
 have hrl:(r.map D.int).length≤1000000:=by rw [List.length_map]; exact Nat.le_trans hr (by decide)
 have hb:∀ z:Int,bv (inComp ρ1 [6]) [6] true (.int z) .old=some ((inComp ρ1 [6]).set 6 (some (.int z,true))):=fun _=>rfl
 have c1:runE t0 (.comp (.and (.cmp .mem (.var 6) (.var 0)) (.cmp .nmem (.var 6) (.var 1))) [6] true .each [(.var 5)] (.bl true)) ρ1=.ok (.lst (r.map fun z=>D.bl (decide (z∈held++x::q))),.sto []):=by
  refine cj (b:=true) hI hrl (cr D.int (fun z=>D.bl (decide (z∈held++x::q))) r fun z _=>cR (hb z) (by rw [rE_bl]; rfl) ?_)
  have a1:runE t0 (.cmp .mem (.var 6) (.var 0)) ((inComp ρ1 [6]).set 6 (some (.int z,true)))=.ok (.bl (valD (rows.map rowK) (Sum.inl z:Key)).isSome,.sto []):=az rfl rfl rfl
  have a2:runE t0 (.cmp .nmem (.var 6) (.var 1)) ((inComp ρ1 [6]).set 6 (some (.int z,true)))=.ok (.bl (!(valD L (Sum.inl z:Key)).isSome),.sto []):=az rfl rfl rfl
  rw [← part z]
  cases h1:(valD (rows.map rowK) (Sum.inl z:Key)).isSome with
  | true=>rw [h1] at a1; exact (bc a1).trans a2
  | false=>rw [h1] at a1; exact ck a1
 have hany:biD .any [.lst (r.map fun z=>D.bl (decide (z∈held++x::q)))]=.ok (.bl (r.any fun z=>decide (z∈held++x::q))):=by
  rw [biD_5,bools_il]
  show R.ok (D.bl ((r.map fun z=>decide (z∈held++x::q)).any id))=_
  rw [List.any_map]
  rfl
 have ht:∀ {o:Out},aA t0 (bodyR.drop 1) ρ1=o→bT [4] true (fun ρ1=>aA t0 bodyR ρ1) (envL rows L W false (some (.lst (held.map D.int),true)) w u) (.int x)=o:=fun h=>(ai hset).trans h
 refine ht ?_
 by_cases h:r.any (fun z=>decide (z∈held++x::q))=true
 ·rw [if_pos h]
  rw [h] at hany
  refine be ((cU (aD c1 hany)).trans (be ?_))
  have:=g7 (M:=t0) (ρ:=ρ1) (i:=3) (e:=.var 4) (l:=held.map D.int) (d:=.int x) rfl rfl (by rw [List.length_map]; exact Nat.lt_of_le_of_lt (Nat.le_trans (Nat.le_add_right _ _) (Nat.le_trans (Nat.le_add_left _ _) hl)) (by decide))
  rw [this,List.map_append]
  rfl
 ·rw [if_neg h]
  rw [Bool.eq_false_iff.mpr h] at hany
  have hz:∀ z∈r,z∉held++x::q:=fun z hz hm=>h (List.any_eq_true.mpr ⟨z,hz,decide_eq_true hm⟩)
  have c2:runE t0 (.comp (.get2 (.var 1) (.var 6) (.int 1)) [6] true .each [(.var 5)] (.bl true)) ρ1=.ok (.lst ((r.map sz).map D.int),.sto []):=by
   rw [show (r.map sz).map D.int=r.map fun z=>D.int (sz z) by rw [List.map_map]; rfl]
   refine cj (b:=true) hI hrl (cr D.int (fun z=>D.int (sz z)) r fun z hzr=>cR (hb z) (by rw [rE_bl]; rfl) (jM (x:=.dK L) (y:=.int z) (w:=.int 1) rfl rfl rfl rfl ?_ rfl))
   by_cases h1:z∈rows.map (·.1)
   ·rw [U.done z h1 (hz z hzr)]; rfl
   ·rw [U.not z (.inr h1),hsz z h1]; rfl
  have c3:=aD (M:=t0) c2 (b:=.sum) (z:=.int (sz x)) (by rw [biD_4,sum_il,hs])
  exact be ((ba (aD c1 hany)).trans (be (g6 c3 rfl rfl rfl (by simp only [j8,dt]; rw [if_pos (Nat.lt_of_le_of_lt (Nat.le_trans (Nat.le_add_right _ _) hl) (by decide))]))))
end
end K12
namespace K12
open Vi
open PySem (Str)
section
variable {marks:List (Int × Int)} {rows:List (Int × List Int)} {shuts:List Int} {sz:Int→Int}
theorem least_idx (idx:Int→Nat):∀ (W:List Int),W≠[]→∃ x∈W,∀ y∈W,idx x≤idx y
 | [],h=>absurd rfl h
 | [x],_=>⟨x,by simp,fun y hy=>by
  have e:y=x:=by simpa using hy
  rw [e]
  exact Nat.le_refl _⟩
 | x::y::l,_=>by
  obtain ⟨z,hz,hm⟩:=least_idx idx (y::l) (by simp)
  by_cases h:idx x≤idx z
  ·refine ⟨x,by simp,fun v hv=>?_⟩
   rcases List.mem_cons.mp hv with e | e
   ·rw [e]; exact Nat.le_refl _
   ·exact Nat.le_trans h (hm v e)
  ·refine ⟨z,List.mem_cons_of_mem _ hz,fun v hv=>?_⟩
   rcases List.mem_cons.mp hv with e | e
   ·rw [e]; (clear hz hm hv e; omega)
   ·exact hm v e
noncomputable abbrev roundB:List S:=[.set 3 (.lst []),.for [4] true .each [(.var 2)] bodyR,.ifs (.cmp .eq (.var 3) (.var 2)) [.raise] [],.set 2 (.var 3)]
inductive RSt (rows:List (Int × List Int)) (sz:Int→Int) (W p:List Int) (ρ:Vi.Env):Prop
 | mk (L:List (Key × D)) (held:List Int) (w:Option Int) (u:Option (List Int)) (q:List Int) (e:ρ=envL rows L W false (some (.lst (held.map D.int),true)) w u) (hq:W=p++q) (U:UOk rows sz L (held++q)) (hsub:held.Sublist p) (hh:∀ y∈held,∃ r,(y,r)∈rows∧∃ z∈r,z∈W)
theorem round_ok (T:bf marks rows shuts) (hr:∀ s r,(s,r)∈rows→r.length≤2) (hsz:∀ p,p∉rows.map (·.1)→sz p=1) (hss:∀ s r,(s,r)∈rows→sz s=(r.map sz).sum) {L:List (Key × D)} {W:List Int} {h:Option (D × Bool)} {w:Option Int} {u:Option (List Int)} (U:UOk rows sz L W) (hW:W≠[]) :
  ∃ L' W' w' u',aA t0 roundB (envL rows L W true none w u)=.nx (envL rows L' W' true none w' u')∧UOk rows sz L' W'∧W'.length < W.length:=by
 obtain ⟨idx,hidx⟩:=T.ahead
 obtain ⟨ρ',e,P⟩:=cP (f:=bT [4] true fun ρ1=>aA t0 bodyR ρ1) (RSt rows sz W) D.int W []
  (envL rows L W false (some (.lst [],true)) w u) ⟨L,[],w,u,W,rfl,rfl,U,List.Sublist.refl _,fun y hy=>nomatch hy⟩ (by
   intro p x q0 ρ e P
   refine zv fun P_ k_=>?_
   obtain ⟨L1,held,w1,u1,q,er,hq,U1,hsub,hheld⟩:=P
   have e:W=p++x::q0:=e
   have eq:q=x::q0:=List.append_cancel_left (hq.symm.trans e)
   subst eq
   subst er
   obtain ⟨r,hx⟩:=T.inRows (U1.sub x (List.mem_append_right _ List.mem_cons_self))
   have ht:=turn_len (W:=W) (w:=w1) (u:=u1) T hsz hx (hss x r hx) (hr x r hx) U1
   have eW:W=p++[x]++q0:=by rw [e,List.append_assoc]; rfl
   by_cases hc:r.any (fun z=>decide (z∈held++x::q0))=true
   ·rw [if_pos hc] at ht
    refine k_ ⟨_,ht,L1,held++[x],some x,some r,q0,rfl,eW,by rw [List.append_assoc]; exact U1,hsub.append (List.Sublist.refl _),fun y hy=>?_⟩
    rcases List.mem_append.mp hy with z | z
    ·exact hheld y z
    ·rw [List.mem_singleton.mp z]
     obtain ⟨z,hz,hm⟩:=List.any_eq_true.mp hc
     refine ⟨r,hx,z,hz, ?_⟩
     rw [e]
     exact (List.mem_append.mp (of_decide_eq_true hm)).elim (fun v=>List.mem_append_left _ (hsub.subset v)) fun v=>List.mem_append_right _ v
   ·rw [if_neg hc] at ht
    exact k_ ⟨_,ht,_,held,some x,some r,q0,rfl,eW,U1.meas,hsub.trans (List.sublist_append_left _ _),hheld⟩)
 obtain ⟨L',held,w',u',q,e1,e2,U',hsub,hheld⟩:=P
 have eq:q=[]:=List.append_cancel_left (e2.symm.trans (List.append_nil W).symm)
 subst eq
 rw [List.append_nil] at U'
 have hsub:held.Sublist W:=hsub
 have hne:held≠W:=fun z=>by
  subst z
  obtain ⟨x,hx,hm⟩:=least_idx idx held hW
  obtain ⟨r,h1,z,hz,hzW⟩:=hheld x hx
  exact absurd (hidx x r h1 z hz (U.sub z hzW)) (Nat.not_lt.mpr (hm z hzW))
 have hI:runI t0 .each [.var 2] (envL rows L W true (some (.lst [],true)) w u)=.ok (W.map D.int,.sto [2]):=by rw [rI_1,eA]; rfl
 have s2:runS t0 (.for [4] true .each [(.var 2)] bodyR) (envL rows L W true (some (.lst [],true)) w u)=.nx (envL rows L' W true (some (.lst (held.map D.int),true)) w' u'):=by
  rw [cV hI rfl,show aK (envL rows L W true (some (.lst [],true)) w u) (.sto [2])=envL rows L W false (some (.lst [],true)) w u by cases w <;> cases u <;> rfl,e,e1]
  cases w' <;> cases u' <;> rfl
 have c3:runE t0 (.cmp .eq (.var 3) (.var 2)) (envL rows L' W true (some (.lst (held.map D.int),true)) w' u')=.ok (.bl false,.sto []):=az rfl rfl (by rw [cmpD_1,eqD_il,decide_eq_false hne])
 exact ⟨L',held,w',u',(ai (ρ':=envL rows L W true (some (.lst [],true)) w u) rfl).trans ((ai s2).trans ((ai ((ba c3).trans bo)).trans (be (aR rfl rfl)))),U',Nat.lt_of_not_le fun z=>hne (hsub.eq_of_length (Nat.le_antisymm hsub.length_le z))⟩
theorem while_ok (T:bf marks rows shuts) (hr:∀ s r,(s,r)∈rows→r.length≤2) (hsz:∀ p,p∉rows.map (·.1)→sz p=1) (hss:∀ s r,(s,r)∈rows→sz s=(r.map sz).sum):∀ (n:Nat) (L:List (Key × D)) (W:List Int) (w:Option Int) (u:Option (List Int)),W.length < n→UOk rows sz L W →
  ∃ L' w' u',whlL (fun ρ'=>tru1 (runE t0 (.var 2) ρ')) (fun ρ'=>aA t0 roundB ρ') n (envL rows L W true none w u)=.nx (envL rows L' [] true none w' u')∧UOk rows sz L' []:=by
 intro x_0
 induction x_0 with
 | zero =>
  intro _ _ _ _ h _
  exact absurd ‹_ < _› (Nat.not_lt_zero _)
 | succ n ih_ =>
  intro L W w u h U
  cases W with
  | nil=>exact ⟨L,w,u,whl_f (show tru1 (runE t0 (.var 2) (envL rows L [] true none w u))=.ok false by rw [eA]; rfl),U⟩
  | cons x W =>
   refine zz fun P_ k_=>?_
   obtain ⟨L1,W1,w1,u1,e1,U1,hl⟩:=round_ok (h:=none) (w:=w) (u:=u) T hr hsz hss U (List.cons_ne_nil _ _)
   obtain ⟨L',w',u',e2,U2⟩:=ih_ L1 W1 w1 u1 (Nat.lt_of_lt_of_le hl (Nat.le_of_lt_succ h)) U1
   refine k_ ?_
   exact ⟨L',w',u',(whl_t (show tru1 (runE t0 (.var 2) (envL rows L (x::W) true none w u))=.ok true by rw [eA]; rfl) e1).trans e2,U2⟩
theorem iF (T:bf marks rows shuts) (hr:∀ s r,(s,r)∈rows→r.length≤2) (hsz:∀ p,p∉rows.map (·.1)→sz p=1) (hss:∀ s r,(s,r)∈rows→sz s=(r.map sz).sum):∃ L,bV [.dK (rows.map rowK)]=.ok (.dK L)∧UOk rows sz L []:=by
 have U0:UOk rows sz [] (sortI (rows.map (·.1))):=⟨fun s hs hn=>absurd (eP.mpr hs) hn,fun s _=>rfl,fun s hs=>eP.mp hs,i6 T.nr,fun k hk=>(nomatch hk),by rw [jD]; simp⟩
 have hW:(sortI (rows.map (·.1))).length < 1000000:=by rw [jD,List.length_map]; have:=T.lr; exact Nat.lt_of_le_of_lt ‹_› (by decide)
 obtain ⟨L,w,u,e,U⟩:=while_ok T hr hsz hss 1000000 [] _ none none hW U0
 refine ⟨L,d6 rfl (by decide) ?_,U⟩
 show aA t0 [.set 1 (.dnew false),.set 2 (.bi .sorted [(.var 0)]),.whl 1000000 (.var 2) roundB,.ret (.var 1)] [some (.dK (rows.map rowK),false),none,none,none,none,none,none]=_
 refine (ai (ρ':=[some (.dK (rows.map rowK),false),some (.dK [],true),none,none,none,none,none]) rfl).trans ((ai (ρ':=envL rows [] (sortI (rows.map (·.1))) true none none none) ?_).trans ((ai (ρ':=envL rows L [] true none w u) (by rw [run_whl]; exact e)).trans rfl))
 have:=aD (M:=t0) (a:=.var 0) (ρ:=[some (.dK (rows.map rowK),false),some (.dK [],true),none,none,none,none,none]) (k:=.old) rfl (gW T)
 rw [gA (dW _)] at this
 exact aR this rfl
theorem keys_ints {P:Int→Prop}:∀ {L:List (Key × D)},(∀ k∈L.map (·.1),∃ s,P s∧k=Sum.inl s)→∃ ns:List Int,(L.map fun kv=>keyD kv.1)=ns.map D.int∧∀ s∈ns,P s:=by
 intro x_0
 induction x_0 with
 | nil =>
  intro _
  exact ⟨[],rfl,fun s hs=>nomatch hs⟩
 | cons p_0 L ih_ =>
  obtain ⟨k,v⟩:=p_0
  intro h
  obtain ⟨ns,e,hn⟩:=ih_ fun k hk=>h k (List.mem_cons_of_mem _ hk)
  obtain ⟨s,hs,ek⟩:=h k List.mem_cons_self
  refine ⟨s::ns, ?_,fun t ht=>?_⟩
  ·rw [List.map_cons,List.map_cons,e,ek]; rfl
  ·rcases List.mem_cons.mp ht with z | z
   ·rw [z]; exact hs
   ·exact hn t z
theorem too_long_ok {L:List (Key × D)} (U:UOk rows sz L []) (h16:∀ s r,(s,r)∈rows→sz s≤16) (T:bf marks rows shuts):bB [.dK L]=.ok .non:=by
 obtain ⟨ns,en,hns⟩:=keys_ints (P:=fun s=>s∈rows.map (·.1)) (L:=L) fun k hk=>let ⟨s,h1,h2⟩:=U.keys k hk; ⟨s,h1,h2⟩
 obtain ⟨ρ',e,w,q⟩:=cP (f:=bT [1] true fun ρ1=>aA t0 [.ifs (.cmp .gt (.dix (.var 0) (.var 1)) (.glb (.int 16))) [.raise] []] ρ1)
  (fun pre ρ=>∃ w,ρ=[some (.dK L,false),oi w]) D.int (sortI ns) [] [some (.dK L,false),none] ⟨none,rfl⟩ (by
   intro p x q ρ e ⟨w,er⟩
   subst er
   have hx:x∈ns:=eP.mp (by rw [show sortI ns=p++x::q from e]; exact List.mem_append_right _ List.mem_cons_self)
   obtain ⟨r,hr⟩:=T.inRows (hns x hx)
   have c:runE t0 (.cmp .gt (.dix (.var 0) (.var 1)) (.glb (.int 16))) [some (.dK L,false),some (.int x,true)]=.ok (.bl (decide (16 < sz x)),.sto []):=az (run_dix (x:=.dK L) (y:=.int x) rfl rfl (congrArg some (U.done x (hns x hx) List.not_mem_nil))) rfl rfl
   rw [decide_eq_false (Int.not_lt.mpr (h16 x r hr))] at c
   exact ⟨_,be ((ba c).trans bo),some x,rfl⟩)
 refine fn_nx (ρ:=[some (.dK L,false),oi w]) rfl (by decide) (be ?_)
 have hnl:ns.length < 64:=by
  have h1:=congrArg List.length en
  rw [List.length_map,List.length_map] at h1
  exact Nat.lt_of_le_of_lt (Nat.le_trans (Nat.le_of_eq h1.symm) (Nat.le_trans U.len T.lr)) (by decide)
 have hi:=aD (M:=t0) (a:=.var 0) (ρ:=[some (.dK L,false),none]) (k:=.old) (b:=.sorted) (x:=.dK L) (z:=.lst ((sortI ns).map D.int)) rfl (by rw [gu,en,gX _ hnl])
 rw [gA (dW _)] at hi
 have hI:runI t0 .each [.bi .sorted [.var 0]] [some (.dK L,false),none]=.ok ((sortI ns).map D.int,.sto []):=by rw [rI_1,hi]; rfl
 show runS t0 (.for [1] true .each [(.bi .sorted [(.var 0)])] _) [some (.dK L,false),none]=_
 rw [cV hI rfl,show aK [some (.dK L,false),none] (.sto [])=[some (.dK L,false),none] from rfl,e,q]
 cases w <;> rfl
end
end K12
namespace K12
open Vi
open PySem (Str)
section
variable {marks:List (Int × Int)} {rows:List (Int × List Int)} {shuts:List Int}
noncomputable abbrev tabD (marks:List (Int × Int)) (rows:List (Int × List Int)) (shuts:List Int) (found:List (List Key × D)):D :=
 .obj 0 [("rank_by_sign", .dK (marks.map cY)), ("row_by_sign", .dK (rows.map rowK)), ("shut_by_sign", .dK (shuts.map dq)), ("sign_by_pair", .dT found)]
theorem n1 : (("row_by_sign" : Str) == ("rank_by_sign" : Str)) = false := by decide +kernel
theorem n2 : (("shut_by_sign" : Str) == ("rank_by_sign" : Str)) = false := by decide +kernel
theorem n3 : (("shut_by_sign" : Str) == ("row_by_sign" : Str)) = false := by decide +kernel
theorem n4 : (("sign_by_pair" : Str) == ("rank_by_sign" : Str)) = false := by decide +kernel
theorem n5 : (("sign_by_pair" : Str) == ("row_by_sign" : Str)) = false := by decide +kernel
theorem n6 : (("sign_by_pair" : Str) == ("shut_by_sign" : Str)) = false := by decide +kernel
theorem jB (T:bf marks rows shuts):∃ found,dN [.lst (marks.map aB),.lst (rows.map rowD),.lst (shuts.map D.int)]=.ok (tabD marks rows shuts found)∧bJ rows shuts (· ∈ sortI (rows.map (·.1))) found:=by
 obtain ⟨found,hf,F,hfi⟩:=gv T
 refine ⟨found, ?_,F⟩
 obtain ⟨sz,h1,h2⟩:=T.size
 obtain ⟨L,hL,U⟩:=iF T (fun s r h=>by rcases T.short s r h with z | z <;> (clear T hf F hfi h1 h2 h; omega)) h2 (fun s r h=>(h1 s r h).1)
 have htl:=too_long_ok U (fun s r h=>(h1 s r h).2) T
 have htw:=g9 marks rows shuts T.nodup T.sh (by have:=T.few; exact Nat.le_trans ‹_› (by decide)) (by have:=T.fewS; exact Nat.le_trans ‹_› (by decide))
 have hnp:=no_pair_ok T
 let rest:List (Option (D × Bool)):=[some (.lst (marks.map aB),false),some (.lst (rows.map rowD),false),some (.lst (shuts.map D.int),false),none]
 have cc:∀ o,runE t2 (.comp (.tup [(.var 4),(.bl true)]) [4] true .each [(.var 3)] (.bl true)) (some (o,true)::rest)=.ok (.lst (shuts.map shutD),.sto []):=fun o =>
  cj (b:=true) (xs:=shuts.map D.int) (k:=.old) (by rw [rI_1,eA]; rfl) (by rw [List.length_map]; exact Nat.le_trans T.fewS (by decide)) (cr D.int shutD shuts fun m _=>cR (ρ1:=(inComp (some (o,true)::rest) [4]).set 4 (some (.int m,true))) rfl (by rw [rE_bl]; rfl) rfl)
 have i1:immL ((marks.map cY).map (·.2))=true:=by rw [List.map_map]; exact df _ (fun r=>rfl) marks
 have i2:immL ((rows.map rowK).map (·.2))=true:=by rw [List.map_map]; exact df _ (fun r=>cI r.2) rows
 have i3:immL ((shuts.map dq).map (·.2))=true:=by rw [List.map_map]; exact df _ (fun r=>rfl) shuts
 let f1 : List (Str × D) := [("rank_by_sign", .dK (marks.map cY))]
 let f2 : List (Str × D) := [("rank_by_sign", .dK (marks.map cY)), ("row_by_sign", .dK (rows.map rowK))]
 let f3 : List (Str × D) := [("rank_by_sign", .dK (marks.map cY)), ("row_by_sign", .dK (rows.map rowK)), ("shut_by_sign", .dK (shuts.map dq))]
 have lr : ∀ {r : List (Str × D)}, List.lookup ("row_by_sign" : Str) (("rank_by_sign", .dK (marks.map cY)) :: ("row_by_sign", .dK (rows.map rowK)) :: r) = some (.dK (rows.map rowK)) := fun {r} => by rw [List.lookup_cons, n1]; exact List.lookup_cons_self
 have s1:runS t2 (.expr (.call 1 [(.var 1),(.var 2),(.var 3)])) (some (.obj 0 [],true)::rest)=.nx (some (.obj 0 [],true)::rest):=jN (aI (ds:=[.lst (marks.map aB),.lst (rows.map rowD),.lst (shuts.map D.int)]) rfl htw)
 have s2 : runS t2 (.fset "rank_by_sign" (.bi .dict [(.var 1)])) (some (.obj 0 [], true) :: rest) = .nx (some (.obj 0 f1, true) :: rest) := by
  refine gG (fs:=[]) ?_ (by decide) rfl
  rw [aD (x:=.lst (marks.map aB)) (k:=.old) rfl (dict_marks T),kd_dK i1]
 have s3 : runS t2 (.fset "row_by_sign" (.bi .dict [(.var 2)])) (some (.obj 0 f1, true) :: rest) = .nx (some (.obj 0 f2, true) :: rest) := by
  refine gG (fs:=f1) ?_ (show 1 < 900 by decide) (by show List.lookup _ [_]=_; rw [List.lookup_cons,n1]; rfl)
  rw [aD (x:=.lst (rows.map rowD)) (k:=.old) rfl (dict_rows T),kd_dK i2]
 have s4 : runS t2 (.fset "shut_by_sign" (.bi .dict [(.comp (.tup [(.var 4), (.bl true)]) [4] true .each [(.var 3)] (.bl true))])) (some (.obj 0 f2, true) :: rest) = .nx (some (.obj 0 f3, true) :: rest) := by
  refine gG (fs:=f2) ?_ (show 2 < 900 by decide) (by show List.lookup _ [_,_]=_; rw [List.lookup_cons,n2,List.lookup_cons,n3]; rfl)
  rw [aD (cc (.obj 0 f2)) (dict_shuts T),kd_dK i3]
 have s5 : runS t2 (.expr (.call 2 [(.fld (.var 0) "row_by_sign"), (.var 3)])) (some (.obj 0 f3, true) :: rest) = .nx (some (.obj 0 f3, true) :: rest) := jN (aI (ag (dM (cg (j5 rfl rfl)) lr) (ag (x := .lst (shuts.map D.int)) rfl au)) hnp)
 have s6 : runS t2 (.fset "sign_by_pair" (.call 3 [(.fld (.var 0) "row_by_sign"), (.fld (.var 0) "shut_by_sign")])) (some (.obj 0 f3, true) :: rest) = .nx (some (tabD marks rows shuts found, true) :: rest) :=
  gG (fs:=f3) (aI (ag (dM (cg (j5 rfl rfl)) lr) (ag (dM (d:=.dK (shuts.map dq)) (cg (j5 rfl rfl)) (by show List.lookup _ [_,_,_]=_; rw [List.lookup_cons,n2,List.lookup_cons,n3]; exact List.lookup_cons_self)) au)) hf) (show 3 < 900 by decide) (by show List.lookup _ [_,_,_]=_; rw [List.lookup_cons,n4,List.lookup_cons,n5,List.lookup_cons,n6]; rfl)
 have s7 : runS t2 (.expr (.call 5 [(.call 4 [(.fld (.var 0) "row_by_sign")])])) (some (tabD marks rows shuts found, true) :: rest) = .nx (some (tabD marks rows shuts found, true) :: rest) :=
  jN (aI (ag (aI (ag (dM (cg (j5 rfl rfl)) lr) au) hL) au) htl)
 have all:aA t2 cH.body (some (.obj 0 [],true)::rest)=.nx (some (tabD marks rows shuts found,true)::rest) :=
  (ai s1).trans ((ai s2).trans ((ai s3).trans ((ai s4).trans ((ai s5).trans ((ai s6).trans (be s7))))))
 unfold dN Fn.init
 rw [if_pos ⟨rfl,by decide⟩]
 show (match aA t2 cH.body (some (.obj 0 [],true)::rest) with | .nx ρ=>(match ρ[(0:Nat)]? with | some (some (d,true))=>R.ok d | _=>.bad) | .ex x=>.ex x | _=>.bad)=_
 rw [all]
 rfl
theorem pair_eq (found:List (List Key × D)) (hf:∀ k,valD found k=none∨∃ i,valD found k=some (.int i)) (a b:Int):hZ [tabD marks rows shuts found,.int a,.int b]=.ok ((valD found [.inl a,.inl b]).getD .non):=by
 rcases hf [.inl a,.inl b] with h | ⟨i,h⟩
 ·simp only [hZ,Fn.run,List.length_cons,List.length_nil,Nat.zero_add,Nat.reduceAdd,cG,Std.le_refl,and_self,↓reduceIte,List.map_cons,List.map_nil,Nat.sub_self,List.replicate_zero,List.append_nil,iU,Out.bind,rS_ret,ofR,jP,rE_fld,eA,getV,Nat.zero_lt_succ,getElem?_pos,List.getElem_cons_zero,D.imm,Bool.false_eq_true,dG,R.pure_eq,R.ok_bind,List.lookup,n4,n5,n6,BEq.rfl,rE_tup,eh,Nat.reduceLT,List.getElem_cons_succ,Nat.lt_add_one,h9,ff,List.contains_eq_mem,List.all_eq_true,Bool.not_eq_eq_eq_not,Bool.not_true,decide_eq_false_iff_not,List.not_mem_nil,not_false_eq_true,implies_true,Nat.reduceLeDiff,da,dt,immK,cu,h,Option.getD_none,retK]
 ·simp only [hZ,Fn.run,List.length_cons,List.length_nil,Nat.zero_add,Nat.reduceAdd,cG,Std.le_refl,and_self,↓reduceIte,List.map_cons,List.map_nil,Nat.sub_self,List.replicate_zero,List.append_nil,iU,Out.bind,rS_ret,ofR,jP,rE_fld,eA,getV,Nat.zero_lt_succ,getElem?_pos,List.getElem_cons_zero,D.imm,Bool.false_eq_true,dG,R.pure_eq,R.ok_bind,List.lookup,n4,n5,n6,BEq.rfl,rE_tup,eh,Nat.reduceLT,List.getElem_cons_succ,Nat.lt_add_one,h9,ff,List.contains_eq_mem,List.all_eq_true,Bool.not_eq_eq_eq_not,Bool.not_true,decide_eq_false_iff_not,List.not_mem_nil,not_false_eq_true,implies_true,Nat.reduceLeDiff,da,dt,immK,cu,h,Option.getD_some,retK]
end
end K12
namespace K12
open Vi
open PySem (Str)
structure Good (pool:List Int) (marks:List (Int × Int)) (rows:List (Int × List Int)) (shuts:List Int) (sizes:List (Key × D)) (sz:Int→Int) (idx:Int→Nat):Prop where
 pn:pool.Nodup
 nodup:(marks.map (·.1)++rows.map (·.1)).Nodup
 mp:∀ s∈marks.map (·.1),s∈pool
 rp:∀ s∈rows.map (·.1),s∈pool
 sh:shuts.Nodup
 two:∀ s∈shuts,∃ r,(s,r)∈rows∧r.length=2
 same:∀ s t r,(s,r)∈rows→(t,r)∈rows→r.length=2→s∉shuts→t∉shuts→s=t
 short:∀ s r,(s,r)∈rows→r.length=1∨r.length=2
 parts:∀ s r,(s,r)∈rows→∀ p∈r,p∈pool
 szs:∀ s∈pool,valD sizes (Sum.inl s:Key)=some (.int (sz s))
 szr:∀ s r,(s,r)∈rows→sz s=(r.map sz).sum∧sz s≤16
 sz1:∀ p,p∉rows.map (·.1)→sz p=1
 ix:∀ p∈pool,idx p < pool.length
 ixr:∀ s r,(s,r)∈rows→∀ p∈r,idx p < idx s
 lm:marks.length+rows.length≤pool.length
 ls:shuts.length≤pool.length
 lz:sizes.length≤pool.length
theorem Good.tab {pool:List Int} {marks:List (Int × Int)} {rows:List (Int × List Int)} {shuts:List Int} {sizes:List (Key × D)} {sz:Int→Int} {idx:Int→Nat} (G:Good pool marks rows shuts sizes sz idx) (h:pool.length≤60):bf marks rows shuts :=
 ⟨G.nodup,G.sh,G.two,G.same,G.short,by have:=G.lm; exact Nat.le_trans ‹_› ‹_›,by have:=G.ls; exact Nat.le_trans ‹_› ‹_›,⟨idx,fun s r hr p hp _=>G.ixr s r hr p hp⟩,⟨sz,G.szr,G.sz1⟩⟩
theorem Good.nil:Good [] [] [] [] [] (fun _=>1) (fun _=>0) :=
 ⟨List.nodup_nil,List.nodup_nil,fun _ h=>(nomatch h),fun _ h=>(nomatch h),List.nodup_nil,fun _ h=>(nomatch h),fun _ _ _ h=>(nomatch h),fun _ _ h=>(nomatch h),fun _ _ h=>(nomatch h),fun _ h=>(nomatch h),fun _ _ h=>(nomatch h),fun _ _=>rfl,fun _ h=>(nomatch h),fun _ _ h=>(nomatch h),Nat.le_refl _,Nat.le_refl _,Nat.le_refl _⟩
section
variable {pool:List Int} {marks:List (Int × Int)} {rows:List (Int × List Int)} {shuts:List Int} {sizes:List (Key × D)} {sz:Int→Int} {idx:Int→Nat} {x:Int}
theorem dA {α:Type} {l:List α} {x:α} (h:l.Nodup) (hx:x∉l):(l++[x]).Nodup:=List.nodup_append.mpr ⟨h,by simp,fun a ha b hb e=>by
 have:b=x:=by simpa using hb
 rw [e,this] at ha
 exact hx ha⟩
theorem Good.idx1 (G:Good pool marks rows shuts sizes sz idx) (hx:x∉pool):(∀ p∈pool++[x],(if p=x then pool.length else idx p) < (pool++[x]).length)∧(∀ s r,(s,r)∈rows→∀ p∈r,(if p=x then pool.length else idx p) < (if s=x then pool.length else idx s)):=by
 refine ⟨fun p hp=>?_,fun s r hr p hp=>?_⟩
 ·rw [List.length_append,List.length_singleton]
  by_cases e:p=x
  ·rw [if_pos e]; exact Nat.le_refl _
  ·rw [if_neg e]
   rcases List.mem_append.mp hp with z | z
   ·have:=G.ix p z; exact Nat.le_succ_of_le ‹_›
   ·exact absurd (by simpa using z) e
 ·have h1:p≠x:=fun e=>hx (e ▸ G.parts s r hr p hp)
  have h2:s≠x:=fun e=>hx (e ▸ G.rp s (List.mem_map.mpr ⟨_,hr,rfl⟩))
  rw [if_neg h1,if_neg h2]
  exact G.ixr s r hr p hp
theorem Good.put (G:Good pool marks rows shuts sizes sz idx) {v:Int} (hx:x∉pool) (sz':Int→Int) (h1:sz' x=v) (h2:∀ p∈pool,sz' p=sz p):∀ s∈pool++[x],valD (putD sizes (.inl x) (.int v)) (Sum.inl s:Key)=some (.int (sz' s)):=fun s hs=>by
 rw [eO]
 by_cases e:s=x
 ·rw [if_pos (by rw [e]),e,h1]
 ·rw [if_neg fun z=>e (Sum.inl.inj z)]
  rcases List.mem_append.mp hs with z | z
  ·rw [G.szs s z,h2 s z]
  ·exact absurd (by simpa using z) e
theorem Good.bare (G:Good pool marks rows shuts sizes sz idx) (hx:x∉pool) {marks':List (Int × Int)} (hm:marks'=marks∨∃ k,marks'=marks++[(x,k)]):Good (pool++[x]) marks' rows shuts (putD sizes (.inl x) (.int 1)) sz (fun p=>if p=x then pool.length else idx p):=by
 have hxr:x∉rows.map (·.1):=fun z=>hx (G.rp x z)
 have hxm:x∉marks.map (·.1):=fun z=>hx (G.mp x z)
 obtain ⟨i1,i2⟩:=G.idx1 hx
 have pl:=gJ sizes (Sum.inl x:Key) (.int 1)
 have lz:=G.lz
 have lm:=G.lm
 have ls:=G.ls
 refine ⟨dA G.pn hx, ?_, ?_,fun s hs=>List.mem_append_left _ (G.rp s hs),G.sh,G.two,G.same,G.short,fun s r hr p hp=>List.mem_append_left _ (G.parts s r hr p hp),G.put hx sz (G.sz1 x hxr) (fun _ _=>rfl),G.szr,G.sz1,i1,i2, ?_, ?_, ?_⟩
 ·rcases hm with e | ⟨k,e⟩
  ·rw [e]; exact G.nodup
  ·rw [e,List.map_append]
   have:=G.nodup
   obtain ⟨a1,a2,a3⟩:=List.nodup_append.mp this
   refine List.nodup_append.mpr ⟨dA a1 hxm,a2,fun a ha b hb=>?_⟩
   rcases List.mem_append.mp ha with z | z
   ·exact a3 a z b hb
   ·have:a=x:=by simpa using z
    rw [this]; intro e; exact hxr (e ▸ hb)
 ·intro s hs
  rcases hm with e | ⟨k,e⟩
  ·rw [e] at hs; exact List.mem_append_left _ (G.mp s hs)
  ·rw [e,List.map_append] at hs
   rcases List.mem_append.mp hs with z | z
   ·exact List.mem_append_left _ (G.mp s z)
   ·exact List.mem_append_right _ (by simpa using z)
 ·rcases hm with e | ⟨k,e⟩ <;> rw [e] <;> simp <;> (clear G hx hxr hxm i1 i2 pl lz ls e; omega)
 ·simp; exact Nat.le_succ_of_le ‹_›
 ·simp; (clear G hx hm hxr hxm i1 i2 lm ls; omega)
theorem Good.row (G:Good pool marks rows shuts sizes sz idx) (hx:x∉pool) {r:List Int} (hr:∀ p∈r,p∈pool) (hl:r.length=1∨r.length=2) (hs:(r.map sz).sum≤16) {shuts':List Int} (hsh:(shuts'=shuts++[x]∧r.length=2)∨(shuts'=shuts∧(r.length=2→∀ t,(t,r)∈rows→t∈shuts))) :
  Good (pool++[x]) marks (rows++[(x,r)]) shuts' (putD sizes (.inl x) (.int ((r.map sz).sum))) (fun p=>if p=x then (r.map sz).sum else sz p) (fun p=>if p=x then pool.length else idx p):=by
 have hxr:x∉rows.map (·.1):=fun z=>hx (G.rp x z)
 have hxm:x∉marks.map (·.1):=fun z=>hx (G.mp x z)
 have hxs:x∉shuts:=fun z=>by
  obtain ⟨r',h1,_⟩:=G.two x z
  exact hxr (List.mem_map.mpr ⟨_,h1,rfl⟩)
 obtain ⟨i1,i2⟩:=G.idx1 hx
 have pl:=gJ sizes (Sum.inl x:Key) (.int ((r.map sz).sum))
 have lz:=G.lz
 have lm:=G.lm
 have ls:=G.ls
 have hmem:∀ {s:Int} {q:List Int},(s,q)∈rows++[(x,r)]→(s,q)∈rows∨(s=x∧q=r):=fun {s q} h=>by
  rcases List.mem_append.mp h with z | z
  ·exact .inl z
  ·have:(s,q)=(x,r):=by simpa using z
   cases this
   exact .inr ⟨rfl,rfl⟩
 have hszp:∀ {q:List Int},(∀ p∈q,p∈pool)→q.map (fun p=>if p=x then (r.map sz).sum else sz p)=q.map sz:=fun {q} hq=>by
  refine List.map_congr_left fun p hp=>?_
  rw [if_neg fun (e:p=x)=>hx (e ▸ hq p hp)]
 have sub:∀ t,t∉shuts'→t∉shuts:=fun t h z=>h (by
  rcases hsh with ⟨e,_⟩ | ⟨e,_⟩
  ·rw [e]; exact List.mem_append_left _ z
  ·rw [e]; exact z)
 refine ⟨dA G.pn hx, ?_,fun s hs=>List.mem_append_left _ (G.mp s hs), ?_, ?_, ?_, ?_, ?_, ?_,G.put hx _ (by rw [if_pos rfl]) (fun p hp=>by rw [if_neg fun (e:p=x)=>hx (e ▸ hp)]), ?_, ?_,i1, ?_, ?_, ?_, ?_⟩
 ·rw [List.map_append,← List.append_assoc]
  refine dA G.nodup fun z=>?_
  rcases List.mem_append.mp z with z | z
  ·exact hxm z
  ·exact hxr z
 ·intro s hs
  rw [List.map_append] at hs
  rcases List.mem_append.mp hs with z | z
  ·exact List.mem_append_left _ (G.rp s z)
  ·exact List.mem_append_right _ (by simpa using z)
 ·rcases hsh with ⟨e,_⟩ | ⟨e,_⟩
  ·rw [e]; exact dA G.sh hxs
  ·rw [e]; exact G.sh
 ·intro s hs'
  have:s∈shuts∨(s=x∧r.length=2):=by
   rcases hsh with ⟨e,h2⟩ | ⟨e,_⟩
   ·rw [e] at hs'
    rcases List.mem_append.mp hs' with z | z
    ·exact .inl z
    ·exact .inr ⟨by simpa using z,h2⟩
   ·rw [e] at hs'; exact .inl hs'
  rcases this with z | ⟨z,h2⟩
  ·obtain ⟨q,h1,h2⟩:=G.two s z
   exact ⟨q,List.mem_append_left _ h1,h2⟩
  ·rw [z]; exact ⟨r,by simp,h2⟩
 ·intro s t q hs1 ht1 h2 ns nt
  rcases hmem hs1 with z | ⟨z,zq⟩
  ·rcases hmem ht1 with y | ⟨y,yq⟩
   ·exact G.same s t q z y h2 (sub s ns) (sub t nt)
   ·subst yq
    rcases hsh with ⟨e,_⟩ | ⟨e,h⟩
    ·rw [e,y] at nt; simp at nt
    ·exact absurd (h h2 s z) (sub s ns)
  ·rcases hmem ht1 with y | ⟨y,yq⟩
   ·subst zq
    rcases hsh with ⟨e,_⟩ | ⟨e,h⟩
    ·rw [e,z] at ns; simp at ns
    ·exact absurd (h h2 t y) (sub t nt)
   ·rw [z,y]
 ·intro s q h
  rcases hmem h with z | ⟨z,zq⟩
  ·exact G.short s q z
  ·rw [zq]; exact hl
 ·intro s q h p hp
  rcases hmem h with z | ⟨z,zq⟩
  ·exact List.mem_append_left _ (G.parts s q z p hp)
  ·rw [zq] at hp; exact List.mem_append_left _ (hr p hp)
 ·intro s q h
  rcases hmem h with z | ⟨z,zq⟩
  ·have hsx:s≠x:=fun e=>hxr (e ▸ List.mem_map.mpr ⟨_,z,rfl⟩)
   rw [if_neg hsx,hszp (G.parts s q z)]
   exact G.szr s q z
  ·rw [z,zq,if_pos rfl,hszp hr]
   exact ⟨rfl,hs⟩
 ·intro p hp
  rw [List.map_append] at hp
  have h1:p≠x:=fun e=>hp (List.mem_append_right _ (by simp [e]))
  rw [if_neg h1]
  exact G.sz1 p fun z=>hp (List.mem_append_left _ z)
 ·intro s q h p hp
  rcases hmem h with z | ⟨z,zq⟩
  ·exact i2 s q z p hp
  ·rw [zq] at hp
   have h1:p≠x:=fun e=>hx (e ▸ hr p hp)
   rw [if_neg h1,if_pos z]
   exact G.ix p (hr p hp)
 ·simp; exact Nat.lt_succ_of_le ‹_›
 ·rcases hsh with ⟨e,_⟩ | ⟨e,_⟩ <;> rw [e] <;> simp <;> (clear G hx hr hl hs hxr hxm hxs i1 i2 pl lz lm hmem hszp sub e; omega)
 ·simp; (clear G hx hr hl hs hsh hxr hxm hxs i1 i2 lm ls hmem hszp sub; omega)
end
end K12
namespace K12
open Vi
open PySem (Str)
noncomputable abbrev ol (w:Option (List Int)):Option (D × Bool):=w.map fun l=>(D.lst (l.map D.int),true)
noncomputable abbrev envT (cells pool:List Int) (marks:List (Int × Int)) (rows:List (Int × List Int)) (shuts:List Int) (sizes:List (Key × D)) (k s n:Option Int) (r:Option (List Int)) (z:Option Int) (al:Option (List Int)):Vi.Env :=
 [some (.lst (cells.map D.int),false),some (.lst (pool.map D.int),true),some (.lst (marks.map aB),true),some (.lst (rows.map rowD),true),some (.lst (shuts.map D.int),true),some (.dK sizes,true),oi k,oi s,oi n,ot r,oi z,none,ol al,none,none]
noncomputable abbrev fT:List S:=match dH.body.getD 5 .pass with
 | .for _ _ _ _ b=>b
 | _=>[]
theorem turn_T (cells:List Int) {pool:List Int} {marks:List (Int × Int)} {rows:List (Int × List Int)} {shuts:List Int} {sizes:List (Key × D)} {sz:Int→Int} {idx:Int→Nat} (G:Good pool marks rows shuts sizes sz idx) (hp:pool.length≤900) (i:Nat) (hi:2 * i+1 < cells.length)
  (k s n:Option Int) (r:Option (List Int)) (z:Option Int) (al:Option (List Int)) :
  ∃ x marks' rows' shuts' sizes' sz' idx' s' n' r' z' al',bT [6] true (fun ρ1=>aA t3 fT ρ1) (envT cells pool marks rows shuts sizes k s n r z al) (.int (2 * (i:Int)))=.nx (envT cells (pool++[x]) marks' rows' shuts' sizes' (some (2 * (i:Int))) s' n' r' z' al')∧Good (pool++[x]) marks' rows' shuts' sizes' sz' idx':=by
 have ha:ixD (.lst (cells.map D.int)) (.int (2 * (i:Int)))=.ok (.int (cells[2 * i]'(by omega))):=by
  simp only [ixD,atD,List.length_map]
  rw [if_pos (by omega),if_pos (by omega)]
  have e:(2 * (i:Int)).toNat=2 * i:=by omega
  simp only [e,List.getElem?_map,List.getElem?_eq_getElem (show 2 * i < cells.length by omega),Option.map_some]
 have hb:ixD (.lst (cells.map D.int)) (.int (2 * (i:Int)+1))=.ok (.int (cells[2 * i+1]'hi)):=by
  simp only [ixD,atD,List.length_map]
  rw [if_pos (by omega),if_pos (by omega)]
  have e:(2 * (i:Int)+1).toNat=2 * i+1:=by omega
  simp only [e,List.getElem?_map,List.getElem?_eq_getElem hi,Option.map_some]
 generalize (cells[2 * i]'(by omega))=a at ha
 generalize (cells[2 * i+1]'hi)=b at hb
 refine zz fun P_ k_=>?_
 obtain ⟨x,hx,hxp⟩:=sign_eq a pool (by omega)
 obtain ⟨rk,hrk⟩:=rank_eq (b / 6)
 refine k_ ?_
 have hbind:bv (envT cells pool marks rows shuts sizes k s n r z al) [6] true (.int (2 * (i:Int))) .old=some (envT cells pool marks rows shuts sizes (some (2 * (i:Int))) s n r z al):=by
  rfl
 rw [bT,hbind]
 show ∃ x marks' rows' shuts' sizes' sz' idx' s' n' r' z' al',aA t3 fT (envT cells pool marks rows shuts sizes (some (2 * (i:Int))) s n r z al)=.nx (envT cells (pool++[x]) marks' rows' shuts' sizes' (some (2 * (i:Int))) s' n' r' z' al')∧Good (pool++[x]) marks' rows' shuts' sizes' sz' idx'
 generalize hK:(2 * (i:Int))=K at *
 have cb:∀ marks s n r z al,runE t3 (.ix (.var 0) (.bin .add (.var 6) (.int 1))) (envT cells pool marks rows shuts sizes (some K) s n r z al)=.ok (.int b,.sto []):=fun marks s n r z al=>fg (x:=.lst (cells.map D.int)) (k:=.old) rfl (ar (x:=.int K) rfl (y:=.int 1) rfl (opD_1 K 1)) hb
 have m6:∀ marks s n r z al,runE t3 (.bin .mod (.ix (.var 0) (.bin .add (.var 6) (.int 1))) (.int 6)) (envT cells pool marks rows shuts sizes (some K) s n r z al)=.ok (.int (b % 6),.sto []):=fun marks s n r z al=>ar (cb marks s n r z al) (y:=.int 6) rfl (d5 b 6)
 have s1:runS t3 (fT.getD 0 .pass) (envT cells pool marks rows shuts sizes (some K) s n r z al)=.nx (envT cells pool marks rows shuts sizes (some K) (some x) n r z al) :=
  aR (aI (f:=10) (ag (fg (a:=.var 0) (i:=.var 6) (x:=.lst (cells.map D.int)) (k:=.old) rfl (y:=.int K) rfl ha) (ag (a:=.var 1) (x:=.lst (pool.map D.int)) rfl au)) hx) rfl
 have s2:runS t3 (fT.getD 1 .pass) (envT cells pool marks rows shuts sizes (some K) (some x) n r z al)=.nx (envT cells pool marks rows shuts sizes (some K) (some x) (some (b / 6)) r z al) :=
  aR (ar (cb _ _ _ _ _ _) (y:=.int 6) rfl (opD_4 b 6)) rfl
 have s3:runS t3 (fT.getD 2 .pass) (envT cells pool marks rows shuts sizes (some K) (some x) (some (b / 6)) r z al)=.nx (envT cells pool marks rows shuts sizes (some K) (some x) (some (b / 6)) (some []) z al) :=
  aR (run_tup au (Nat.zero_le _)) rfl
 have s4:∃ q:List Int,(∀ p∈q,p∈pool)∧(q=[]∨q.length=1∨q.length=2)∧(b % 6=1→q=[])∧runS t3 (fT.getD 3 .pass) (envT cells pool marks rows shuts sizes (some K) (some x) (some (b / 6)) (some []) z al)=.nx (envT cells pool marks rows shuts sizes (some K) (some x) (some (b / 6)) (some q) z al):=by
  have c1:runE t3 (.cmp .ne (.var 1) (.lst [])) (envT cells pool marks rows shuts sizes (some K) (some x) (some (b / 6)) (some []) z al)=.ok (.bl (!(pool.map D.int).isEmpty),.sto []):=az (x:=.lst (pool.map D.int)) rfl (y:=.lst []) rfl (ne_nil _)
  have c2:runE t3 (.cmp .gt (.bin .mod (.ix (.var 0) (.bin .add (.var 6) (.int 1))) (.int 6)) (.int 2)) (envT cells pool marks rows shuts sizes (some K) (some x) (some (b / 6)) (some []) z al)=.ok (.bl (decide (2 < b % 6)),.sto []):=az (m6 _ _ _ _ _ _) (y:=.int 2) rfl rfl
  by_cases hpe:pool=[]
  ·rw [show (!(pool.map D.int).isEmpty)=false by rw [hpe]; rfl] at c1
   exact ⟨[],fun p h=>(nomatch h),.inl rfl,fun _=>rfl,(ba (ck c1)).trans bo⟩
  ·rw [ne_il hpe] at c1
   by_cases hc:2 < b % 6
   ·rw [decide_eq_true hc] at c2
    refine zz fun P_ k_=>?_
    obtain ⟨q,hq,h1,h2⟩:=row_eq (b / 6) pool hpe (by omega)
    refine k_ ?_
    exact ⟨q,h1,.inr h2,fun h=>by omega,(cU ((bc c1).trans c2)).trans (be (aR (aI (f:=12) (ag (a:=.var 8) (x:=.int (b / 6)) rfl (ag (a:=.var 1) (x:=.lst (pool.map D.int)) rfl au)) hq) rfl))⟩
   ·rw [decide_eq_false hc] at c2
    exact ⟨[],fun p h=>(nomatch h),.inl rfl,fun _=>rfl,(ba ((bc c1).trans c2)).trans bo⟩
 refine zz fun P_ k_=>?_
 obtain ⟨q,hq1,hq2,hq3,s4⟩:=s4
 have hql:q.length≤2:=by rcases hq2 with z | z | z <;> simp [z]
 have hS:=G.szs
 have v9:∀ pool marks rows shuts sizes z al,runE t3 (.var 9) (envT cells pool marks rows shuts sizes (some K) (some x) (some (b / 6)) (some q) z al)=.ok (.tup (q.map D.int),.sto []):=fun _ _ _ _ _ _ _=>cg (eG rfl (cI q))
 have s5:runS t3 (fT.getD 4 .pass) (envT cells pool marks rows shuts sizes (some K) (some x) (some (b / 6)) (some q) z al)=.nx (envT cells pool marks rows shuts sizes (some K) (some x) (some (b / 6)) (some q) (some (q.map sz).sum) al):=by
  have e:(q.map sz).map D.int=q.map fun z=>D.int (sz z):=by rw [List.map_map]; rfl
  have c1:runE t3 (.comp (.dix (.var 5) (.var 11)) [11] true .each [(.var 9)] (.bl true)) (envT cells pool marks rows shuts sizes (some K) (some x) (some (b / 6)) (some q) z al)=.ok (.lst ((q.map sz).map D.int),.sto []):=by
   rw [e]
   refine cj (b:=true) (gH (v9 _ _ _ _ _ _ _) rfl) (by rw [List.length_map]; omega) (cr D.int (fun z=>D.int (sz z)) q fun y hy=>?_)
   refine cR (ρ1:=(inComp (envT cells pool marks rows shuts sizes (some K) (some x) (some (b / 6)) (some q) z al) [11]).set 11 (some (.int y,true))) rfl rfl (jO (x:=.dK sizes) rfl (y:=.int y) rfl ?_ rfl)
   show some (valD sizes (Sum.inl y:Key))=_
   rw [hS y (hq1 y hy)]
  exact aR (aD c1 (z:=.int (q.map sz).sum) (by rw [biD_4,sum_il])) rfl
 have hml:(marks.map aB).length < 1000000:=by rw [List.length_map]; have:=G.lm; omega
 have hrl:(rows.map rowD).length < 1000000:=by rw [List.length_map]; have:=G.lm; omega
 have hsl:(shuts.map D.int).length < 1000000:=by rw [List.length_map]; have:=G.ls; omega
 have hzl:sizes.length < 1000000:=by have:=G.lz; omega
 have s6:∃ marks',(marks'=marks∨(q=[]∧∃ k,marks'=marks++[(x,k)]))∧runS t3 (fT.getD 5 .pass) (envT cells pool marks rows shuts sizes (some K) (some x) (some (b / 6)) (some q) (some (q.map sz).sum) al)=.nx (envT cells pool marks' rows shuts sizes (some K) (some x) (some (b / 6)) (some q) (some (q.map sz).sum) al):=by
  have c:runE t3 (.cmp .eq (.bin .mod (.ix (.var 0) (.bin .add (.var 6) (.int 1))) (.int 6)) (.int 1)) (envT cells pool marks rows shuts sizes (some K) (some x) (some (b / 6)) (some q) (some (q.map sz).sum) al)=.ok (.bl (b % 6 == 1),.sto []):=az (m6 _ _ _ _ _ _) (y:=.int 1) rfl rfl
  by_cases h1:b % 6=1
  ·rw [show (b % 6 == 1)=true by rw [h1]; rfl] at c
   refine ⟨marks++[(x,rk)],.inr ⟨hq3 h1,rk,rfl⟩,(cU c).trans (be ?_)⟩
   unfold envT
   rw [List.map_append]
   exact g7 (run_tup (ag (a:=.var 7) (x:=.int x) (k:=.sto []) rfl (ag (aI (f:=11) (ag (a:=.var 8) (x:=.int (b / 6)) rfl au) hrk) au)) (show (2:Nat)≤1000000 by decide)) rfl hml
  ·rw [beq_no h1] at c
   exact ⟨marks,.inl rfl,(ba c).trans bo⟩
 obtain ⟨marks',hm,s6⟩:=s6
 refine k_ ?_
 have pl:(pool.map D.int).length < 1000000:=by rw [List.length_map]; omega
 have s8:∀ rows' shuts' sizes' al',runS t3 (fT.getD 7 .pass) (envT cells pool marks' rows' shuts' sizes' (some K) (some x) (some (b / 6)) (some q) (some (q.map sz).sum) al')=.nx (envT cells (pool++[x]) marks' rows' shuts' sizes' (some K) (some x) (some (b / 6)) (some q) (some (q.map sz).sum) al'):=fun rows' shuts' sizes' al'=>by
  unfold envT
  rw [List.map_append]
  exact g7 (e:=.var 7) (d:=.int x) rfl rfl pl
 have fin:∀ {rows' shuts' sizes' al' sz' idx'},runS t3 (fT.getD 6 .pass) (envT cells pool marks' rows shuts sizes (some K) (some x) (some (b / 6)) (some q) (some (q.map sz).sum) al)=.nx (envT cells pool marks' rows' shuts' sizes' (some K) (some x) (some (b / 6)) (some q) (some (q.map sz).sum) al')→Good (pool++[x]) marks' rows' shuts' sizes' sz' idx' →
   ∃ x marks' rows' shuts' sizes' sz' idx' s' n' r' z' al',aA t3 fT (envT cells pool marks rows shuts sizes (some K) s n r z al)=.nx (envT cells (pool++[x]) marks' rows' shuts' sizes' (some K) s' n' r' z' al')∧Good (pool++[x]) marks' rows' shuts' sizes' sz' idx':=by
  intro rows' shuts' sizes' al' sz' idx' s7 G'
  refine ⟨x,marks',rows',shuts',sizes',sz',idx',some x,some (b / 6),some q,some (q.map sz).sum,al', ?_,G'⟩
  exact (ai s1).trans ((ai s2).trans ((ai s3).trans ((ai s4).trans ((ai s5).trans ((ai s6).trans ((ai s7).trans (be (s8 _ _ _ _))))))))
 have cA:∀ {t u:Bool},cmpD .ne (.tup (q.map D.int)) (.tup [])=.ok t→decide ((q.map sz).sum < 17)=u→runE t3 (.and (.cmp .ne (.var 9) (.tup [])) (.cmp .lt (.var 10) (.int 17))) (envT cells pool marks' rows shuts sizes (some K) (some x) (some (b / 6)) (some q) (some (q.map sz).sum) al)=.ok (.bl (t && u),.sto []):=by
  intro t u h1 h2
  have c1:runE t3 (.cmp .ne (.var 9) (.tup [])) (envT cells pool marks' rows shuts sizes (some K) (some x) (some (b / 6)) (some q) (some (q.map sz).sum) al)=.ok (.bl t,.sto []):=az (v9 _ _ _ _ _ _ _) (y:=.tup []) rfl h1
  have c2:runE t3 (.cmp .lt (.var 10) (.int 17)) (envT cells pool marks' rows shuts sizes (some K) (some x) (some (b / 6)) (some q) (some (q.map sz).sum) al)=.ok (.bl u,.sto []):=az (x:=.int (q.map sz).sum) rfl (y:=.int 17) rfl (by rw [cmpD_3,h2])
  cases t with
  | true=>exact (bc c1).trans c2
  | false=>exact ck c1
 by_cases hc:q≠[]∧(q.map sz).sum < 17
 ·have hl:q.length=1∨q.length=2:=hq2.resolve_left hc.1
  have hm':marks'=marks:=hm.resolve_right fun h=>hc.1 h.1
  subst hm'
  have cT:=cA (ne_nilT (q.map D.int)) (decide_eq_true hc.2)
  rw [ne_il hc.1] at cT
  have e1:runS t3 (.app 3 (.tup [(.var 7),(.var 9)])) (envT cells pool marks' rows shuts sizes (some K) (some x) (some (b / 6)) (some q) (some (q.map sz).sum) al)=.nx (envT cells pool marks' (rows++[(x,q)]) shuts sizes (some K) (some x) (some (b / 6)) (some q) (some (q.map sz).sum) al):=by
   have c:=run_tup (ag (a:=.var 7) (x:=.int x) (k:=.sto []) rfl (ag (v9 pool marks' rows shuts sizes (some (q.map sz).sum) al) au)) (show (2:Nat)≤1000000 by decide)
   have r:=g7 (i:=3) c rfl hrl
   unfold envT
   rw [List.map_append]
   exact r
  have e2:runS t3 (.put 5 (.var 7) (.var 10)) (envT cells pool marks' (rows++[(x,q)]) shuts sizes (some K) (some x) (some (b / 6)) (some q) (some (q.map sz).sum) al)=.nx (envT cells pool marks' (rows++[(x,q)]) shuts (putD sizes (.inl x) (.int (q.map sz).sum)) (some K) (some x) (some (b / 6)) (some q) (some (q.map sz).sum) al) :=
   g6 (y:=.int (q.map sz).sum) rfl (x:=.int x) rfl (d:=.dK sizes) rfl rfl (show (if sizes.length < 1000000 then some (D.dK (putD sizes (.inl x) (.int (q.map sz).sum))) else none)=_ by rw [if_pos hzl])
  let alike:List Int:=((rows.filter fun p=>decide (p.2=q) && !decide (p.1∈shuts)).map (·.1))
  have e3:runS t3 (.set 12 (.comp (.var 13) [13,14] false .each [(.sl (.var 3) .nil (.neg (.int 1)))] (.and (.cmp .eq (.var 14) (.var 9)) (.cmp .nmem (.var 13) (.var 4))))) (envT cells pool marks' (rows++[(x,q)]) shuts (putD sizes (.inl x) (.int (q.map sz).sum)) (some K) (some x) (some (b / 6)) (some q) (some (q.map sz).sum) al) =
    .nx (envT cells pool marks' (rows++[(x,q)]) shuts (putD sizes (.inl x) (.int (q.map sz).sum)) (some K) (some x) (some (b / 6)) (some q) (some (q.map sz).sum) (some alike)):=by
   have ecut:cutD ((rows++[(x,q)]).map rowD) none (some (-1))=rows.map rowD:=by
    have h1:((-1:Int)+((rows.length+1:Nat):Int)).toNat=rows.length:=by omega
    simp [cutD,cutAt,h1]
    rw [show ((-1:Int)+((rows.length:Int)+1)).toNat=rows.length by omega]
    simp
   have hI:runI t3 .each [.sl (.var 3) .nil (.neg (.int 1))] (envT cells pool marks' (rows++[(x,q)]) shuts (putD sizes (.inl x) (.int (q.map sz).sum)) (some K) (some x) (some (b / 6)) (some q) (some (q.map sz).sum) al)=.ok (rows.map rowD,.sto []):=by
    refine gH (x:=.lst (rows.map rowD)) ?_ rfl
    have:slD (.lst ((rows++[(x,q)]).map rowD)) (some none) (some (some (-1)))=.ok (.lst (rows.map rowD),.sto []):=by rw [slD_1,if_pos (immR _),ecut]
    rw [← this,rE_sl]
    rfl
   have ea:alike.map D.int=(rows.filter fun p=>decide (p.2=q) && !decide (p.1∈shuts)).map fun p=>D.int p.1:=by simp [alike,Function.comp_def]
   have c1:runE t3 (.comp (.var 13) [13,14] false .each [(.sl (.var 3) .nil (.neg (.int 1)))] (.and (.cmp .eq (.var 14) (.var 9)) (.cmp .nmem (.var 13) (.var 4)))) (envT cells pool marks' (rows++[(x,q)]) shuts (putD sizes (.inl x) (.int (q.map sz).sum)) (some K) (some x) (some (b / 6)) (some q) (some (q.map sz).sum) al)=.ok (.lst (alike.map D.int),.sto []):=by
    rw [ea]
    refine cj (b:=true) hI (Nat.le_of_lt hrl) (gq rowD (fun p=>D.int p.1) (fun p=>decide (p.2=q) && !decide (p.1∈shuts)) rows fun p hp=>?_)
    obtain ⟨p1,p2⟩:=p
    have heq:=eqD_tup p2 q
    have hbt:bv (inComp (envT cells pool marks' (rows++[(x,q)]) shuts (putD sizes (.inl x) (.int (q.map sz).sum)) (some K) (some x) (some (b / 6)) (some q) (some (q.map sz).sum) al) [13,14]) [13,14] false (rowD (p1,p2)) .old =
      some [some (.lst (cells.map D.int),false),some (.lst (pool.map D.int),false),some (.lst (marks'.map aB),false),some (.lst ((rows++[(x,q)]).map rowD),false),some (.lst (shuts.map D.int),false),some (.dK (putD sizes (.inl x) (.int (q.map sz).sum)),false),some (.int K,false),some (.int x,false),some (.int (b / 6),false),some (.tup (q.map D.int),false),some (.int (q.map sz).sum,false),none,(al.map fun l=>(D.lst (l.map D.int),false)),some (.int p1,true),some (.tup (p2.map D.int),true)]:=by
     refine (bind2 (dP (p1,p2))).trans ?_
     cases al <;> rfl
    have c1:∀ al',runE t3 (.cmp .eq (.var 14) (.var 9)) [some (.lst (cells.map D.int),false),some (.lst (pool.map D.int),false),some (.lst (marks'.map aB),false),some (.lst ((rows++[(x,q)]).map rowD),false),some (.lst (shuts.map D.int),false),some (.dK (putD sizes (.inl x) (.int (q.map sz).sum)),false),some (.int K,false),some (.int x,false),some (.int (b / 6),false),some (.tup (q.map D.int),false),some (.int (q.map sz).sum,false),none,al',some (.int p1,true),some (.tup (p2.map D.int),true)]=.ok (.bl (decide (p2=q)),.sto []):=fun al'=>az (cg (eG rfl (cI p2))) (cg (eG rfl (cI q))) (by rw [cmpD_1,heq])
    have c2:∀ al',runE t3 (.cmp .nmem (.var 13) (.var 4)) [some (.lst (cells.map D.int),false),some (.lst (pool.map D.int),false),some (.lst (marks'.map aB),false),some (.lst ((rows++[(x,q)]).map rowD),false),some (.lst (shuts.map D.int),false),some (.dK (putD sizes (.inl x) (.int (q.map sz).sum)),false),some (.int K,false),some (.int x,false),some (.int (b / 6),false),some (.tup (q.map D.int),false),some (.int (q.map sz).sum,false),none,al',some (.int p1,true),some (.tup (p2.map D.int),true)]=.ok (.bl (!decide (p1∈shuts)),.sto []):=fun al'=>az (x:=.int p1) rfl (y:=.lst (shuts.map D.int)) rfl (by
     show (match memL (.int p1) (shuts.map D.int) with | some k=>R.ok (!k) | none=>.bad)=_
     rw [memL_il,gj])
    have ht:∀ {c:E} {ρ:Vi.Env} {t:Bool},runE t3 c ρ=.ok (.bl t,.sto [])→tru1 (runE t3 c ρ)=.ok t:=fun {c ρ t} h=>by rw [h]; rfl
    cases h1:decide (p2=q) with
    | false =>
     rw [h1] at c1
     exact turnC_f hbt (ht (ck (c1 _)))
    | true =>
     rw [h1] at c1
     cases h2:decide (p1∈shuts) with
     | true =>
      rw [h2] at c2
      exact turnC_f hbt (ht ((bc (c1 _)).trans (c2 _)))
     | false =>
      rw [h2] at c2
      exact cR hbt (ht ((bc (c1 _)).trans (c2 _))) rfl
   exact aR (i:=12) c1 rfl
  have e4:∃ shuts',((shuts'=shuts++[x]∧q.length=2)∨(shuts'=shuts∧(q.length=2→∀ t,(t,q)∈rows→t∈shuts)))∧runS t3 (.ifs (.and (.cmp .eq (.bi .len [(.var 9)]) (.int 2)) (.or (.cmp .ne (.var 12) (.lst [])) (.cmp .eq (.bin .mod (.bin .fdiv (.var 8) (.int 4000)) (.int 5)) (.int 1)))) [.app 4 (.var 7)] []) (envT cells pool marks' (rows++[(x,q)]) shuts (putD sizes (.inl x) (.int (q.map sz).sum)) (some K) (some x) (some (b / 6)) (some q) (some (q.map sz).sum) (some alike)) =
    .nx (envT cells pool marks' (rows++[(x,q)]) shuts' (putD sizes (.inl x) (.int (q.map sz).sum)) (some K) (some x) (some (b / 6)) (some q) (some (q.map sz).sum) (some alike)):=by
   have d1:runE t3 (.cmp .eq (.bi .len [(.var 9)]) (.int 2)) (envT cells pool marks' (rows++[(x,q)]) shuts (putD sizes (.inl x) (.int (q.map sz).sum)) (some K) (some x) (some (b / 6)) (some q) (some (q.map sz).sum) (some alike))=.ok (.bl (((q.map D.int).length:Int) == 2),.sto []):=az (aD (v9 _ _ _ _ _ _ _) rfl) (y:=.int 2) rfl rfl
   have d2:runE t3 (.cmp .ne (.var 12) (.lst [])) (envT cells pool marks' (rows++[(x,q)]) shuts (putD sizes (.inl x) (.int (q.map sz).sum)) (some K) (some x) (some (b / 6)) (some q) (some (q.map sz).sum) (some alike))=.ok (.bl (!(alike.map D.int).isEmpty),.sto []):=az (x:=.lst (alike.map D.int)) rfl (y:=.lst []) rfl (ne_nil _)
   have d3:runE t3 (.cmp .eq (.bin .mod (.bin .fdiv (.var 8) (.int 4000)) (.int 5)) (.int 1)) (envT cells pool marks' (rows++[(x,q)]) shuts (putD sizes (.inl x) (.int (q.map sz).sum)) (some K) (some x) (some (b / 6)) (some q) (some (q.map sz).sum) (some alike))=.ok (.bl (b / 6 / 4000 % 5 == 1),.sto []):=az (ar (ar (x:=.int (b / 6)) rfl (y:=.int 4000) rfl (opD_4 (b / 6) 4000)) (y:=.int 5) rfl (d5 _ 5)) (y:=.int 1) rfl rfl
   have app:runS t3 (.app 4 (.var 7)) (envT cells pool marks' (rows++[(x,q)]) shuts (putD sizes (.inl x) (.int (q.map sz).sum)) (some K) (some x) (some (b / 6)) (some q) (some (q.map sz).sum) (some alike))=.nx (envT cells pool marks' (rows++[(x,q)]) (shuts++[x]) (putD sizes (.inl x) (.int (q.map sz).sum)) (some K) (some x) (some (b / 6)) (some q) (some (q.map sz).sum) (some alike)):=by
    have r:=g7 (M:=t3) (i:=4) (e:=.var 7) (ρ:=envT cells pool marks' (rows++[(x,q)]) shuts (putD sizes (.inl x) (.int (q.map sz).sum)) (some K) (some x) (some (b / 6)) (some q) (some (q.map sz).sum) (some alike)) (d:=.int x) rfl rfl hsl
    rw [r,show shuts.map D.int++[.int x]=(shuts++[x]).map D.int by rw [List.map_append]; rfl]
    rfl
   by_cases h2:q.length=2
   ·rw [show (((q.map D.int).length:Int) == 2)=true by rw [List.length_map,h2]; rfl] at d1
    cases ha:(alike.map D.int).isEmpty with
    | true =>
     rw [ha] at d2
     have ha0:alike=[]:=List.map_eq_nil_iff.mp (List.isEmpty_iff.mp ha)
     have hall:∀ t,(t,q)∈rows→t∈shuts:=fun t ht=>Classical.byContradiction fun hn=>by
      have:t∈alike:=List.mem_map.mpr ⟨(t,q),List.mem_filter.mpr ⟨ht,by rw [decide_eq_true rfl,decide_eq_false hn]; rfl⟩,rfl⟩
      rw [ha0] at this
      cases this
     cases h5:(b / 6 / 4000 % 5 == 1) with
     | true =>
      rw [h5] at d3
      exact ⟨shuts++[x],.inl ⟨rfl,h2⟩,(cU ((bc d1).trans ((cO d2).trans d3))).trans (be app)⟩
     | false =>
      rw [h5] at d3
      exact ⟨shuts,.inr ⟨rfl,fun _=>hall⟩,(ba ((bc d1).trans ((cO d2).trans d3))).trans bo⟩
    | false =>
     rw [ha] at d2
     exact ⟨shuts++[x],.inl ⟨rfl,h2⟩,(cU ((bc d1).trans (run_or_t d2))).trans (be app)⟩
   ·rw [beq_no (by rw [List.length_map]; omega)] at d1
    exact ⟨shuts,.inr ⟨rfl,fun h=>absurd h h2⟩,(ba (ck d1)).trans bo⟩
  obtain ⟨shuts',hsh,e4⟩:=e4
  refine fin (sz':=fun p=>if p=x then (q.map sz).sum else sz p) (idx':=fun p=>if p=x then pool.length else idx p) (rows':=rows++[(x,q)]) (shuts':=shuts') (sizes':=putD sizes (.inl x) (.int (q.map sz).sum)) (al':=some alike) ?_ (G.row hxp hq1 hl (by omega) hsh)
  exact (cU cT).trans ((ai e1).trans ((ai e2).trans ((ai e3).trans (be e4))))
 ·-- none
  refine fin (sz':=sz) (idx':=fun p=>if p=x then pool.length else idx p) (rows':=rows) (shuts':=shuts) (sizes':=putD sizes (.inl x) (.int 1)) (al':=al) ?_ (G.bare hxp (hm.imp id fun h=>h.2))
  have cF:runE t3 (.and (.cmp .ne (.var 9) (.tup [])) (.cmp .lt (.var 10) (.int 17))) (envT cells pool marks' rows shuts sizes (some K) (some x) (some (b / 6)) (some q) (some (q.map sz).sum) al)=.ok (.bl false,.sto []):=by
   have c:=cA (ne_nilT (q.map D.int)) rfl
   by_cases hq:q=[]
   ·rw [show (!(q.map D.int).isEmpty)=false by rw [hq]; rfl] at c
    exact c
   ·rw [ne_il hq,decide_eq_false fun h=>hc ⟨hq,h⟩] at c
    exact c
  exact (ba cF).trans (be (g6 (y:=.int 1) rfl (x:=.int x) rfl (d:=.dK sizes) rfl rfl (show (if sizes.length < 1000000 then some (D.dK (putD sizes (.inl x) (.int 1))) else none)=_ by rw [if_pos hzl])))
end K12
namespace K12
open Vi
open PySem (Str)
theorem intsFrom2:∀ (n:Nat) (a:Int),bw a 2 n=(List.range n).map fun i:Nat=>D.int (a+2 * (i:Int))
 | 0,_=>rfl
 | n+1,a=>by
  rw [bw,intsFrom2 n (a+2),List.range_succ_eq_map,List.map_cons,List.map_map]
  congr 1
  ·simp
  ·refine List.map_congr_left fun i _=>?_
   show D.int (a+2+2 * (i:Int))=D.int (a+2 * ((i+1:Nat):Int))
   congr 1
   omega
theorem ss_app {M:Tab} {r:List S}:∀ {a:List S} {ρ ρ':Env},aA M a ρ=.nx ρ'→aA M (a++r) ρ=aA M r ρ'
 | [],ρ,ρ',h=>by
  rw [rSs_0] at h
  injection h with h
  rw [h]
  rfl
 | s::a,ρ,ρ',h=>by
  rw [iU] at h
  rw [List.cons_append,iU]
  cases e:runS M s ρ with
  | nx ρ1 =>
   rw [e] at h
   exact ss_app (a:=a) h
  | _=>rw [e] at h; injection h
theorem l_table_ok (cells:List Int) (hl:cells.length≤100):∃ pool marks rows shuts sizes sz idx,hV [.lst (cells.map D.int)]=.ok (.tup [.lst (marks.map aB),.lst (rows.map rowD),.lst (shuts.map D.int),.lst (pool.map D.int)])∧Good pool marks rows shuts sizes sz idx∧pool.length≤50:=by
 let n:=cells.length / 2
 refine zz fun P_ k_=>?_
 obtain ⟨ρ',e,pool,marks,rows,shuts,sizes,sz,idx,k,s,m,r,z,al,q,G,hp⟩:=cP (f:=bT [6] true fun ρ1=>aA t3 fT ρ1)
  (fun pre ρ=>∃ pool marks rows shuts sizes sz idx k s m r z al,ρ=envT cells pool marks rows shuts sizes k s m r z al∧Good pool marks rows shuts sizes sz idx∧pool.length=pre.length) (fun i:Nat=>D.int (2 * (i:Int))) (List.range n) []
  (envT cells [] [] [] [] [] none none none none none none) ⟨[],[],[],[],[],_,_,none,none,none,none,none,none,rfl,Good.nil,rfl⟩ (by
   rintro p i q ρ e ⟨pool,marks,rows,shuts,sizes,sz,idx,k,s,m,r,z,al,rfl,G,hp⟩
   have e:List.range n=p++i::q:=by simpa using e
   have hi:i∈List.range n:=by rw [e]; simp
   have hi:i < n:=List.mem_range.mp hi
   have hpl:p.length < n:=by
    have:=congrArg List.length e
    simp at this
    omega
   have hn:n=cells.length / 2:=rfl
   obtain ⟨x,marks',rows',shuts',sizes',sz',idx',s',n',r',z',al',h1,h2⟩:=turn_T cells G (by omega) i (by omega) k s m r z al
   exact ⟨_,h1,_,_,_,_,_,_,_,_,_,_,_,_,_,rfl,h2,by simp [hp]⟩)
 refine k_ ?_
 have hn:n=cells.length / 2:=rfl
 rw [List.nil_append,List.length_range] at hp
 refine ⟨pool,marks,rows,shuts,sizes,sz,idx,d6 rfl (by decide) ?_,G,by omega⟩
 have h1:aA t3 (dH.body.take 5) (some (.lst (cells.map D.int),false)::List.replicate 14 none)=.nx (envT cells [] [] [] [] [] none none none none none none):=by
  rfl
 have hI:runI t3 .range [(.int 0),(.bin .sub (.bi .len [(.var 0)]) (.int 1)),(.int 2)] (envT cells [] [] [] [] [] none none none none none none)=.ok ((List.range n).map fun i:Nat=>D.int (2 * (i:Int)),.sto []):=by
  have hb : -(2 ^ 62:Int)≤(cells.length:Int) - 1∧(cells.length:Int) - 1 < 2 ^ 62:=by omega
  have e2:(((cells.length:Int) - 1 - 0+1) / 2).toNat=n:=by omega
  have hi:dU .range [.int 0,.int ((cells.length:Int) - 1),.int 2]=some (bw 0 2 n):=by
   simp only [gP,gO,gN,gM,gL]
   rw [if_pos (by simpa using hb),e2]
  have e3:bw 0 2 n=(List.range n).map fun i:Nat=>D.int (2 * (i:Int)):=by
   rw [intsFrom2]
   refine List.map_congr_left fun i _=>?_
   rw [Int.zero_add]
  rw [e3] at hi
  have e4:runI t3 .range [(.int 0),(.bin .sub (.bi .len [(.var 0)]) (.int 1)),(.int 2)] (envT cells [] [] [] [] [] none none none none none none)=(match dU .range [.int 0,.int (((cells.map D.int).length:Int) - 1),.int 2] with | none=>.bad | some xs=>pure (xs,Kd.sto [])):=rfl
  rw [e4,List.length_map,hi]
  rfl
 have h2:runS t3 (dH.body.getD 5 .pass) (envT cells [] [] [] [] [] none none none none none none)=.nx (envT cells pool marks rows shuts sizes k s m r z al):=by
  show runS t3 (.for [6] true .range [(.int 0),(.bin .sub (.bi .len [(.var 0)]) (.int 1)),(.int 2)] fT) _=_
  rw [cV hI rfl]
  have el:aK (envT cells [] [] [] [] [] none none none none none none) (.sto [])=envT cells [] [] [] [] [] none none none none none none:=rfl
  rw [el,e,q]
  have hw:[6]++asgs fT=[6,7,8,9,9,10,12]:=rfl
  rw [hw]
  refine congrArg Out.nx ?_
  unfold rest
  simp only [List.mapIdx_cons,List.mapIdx_nil]
  repeat (refine List.cons_eq_cons.mpr ⟨?_, ?_⟩; · first | rfl | (cases k <;> rfl) | (cases s <;> rfl) | (cases m <;> rfl) | (cases r <;> rfl) | (cases z <;> rfl) | (cases al <;> rfl))
  rfl
 have h3:runE t3 (.tup [(.var 2),(.var 3),(.var 4),(.var 1)]) (envT cells pool marks rows shuts sizes k s m r z al)=.ok (.tup [.lst (marks.map aB),.lst (rows.map rowD),.lst (shuts.map D.int),.lst (pool.map D.int)],.sto [2,3,4,1]):=rfl
 exact (ss_app h1).trans ((ai h2).trans (ft h3))
end K12
namespace K11
open Vi K12
open PySem (Str)
theorem cut_take (l:List D) (i:Nat) (h:i≤l.length):cutD l none (some (i:Int))=l.take i:=by
 show (l.drop 0).take ((if (i:Int) < 0 then ((i:Int)+l.length).toNat else min (i:Int).toNat l.length) - 0)=_
 rw [if_neg (by exact Int.not_lt.mpr (Int.natCast_nonneg _)),Int.toNat_natCast,Nat.min_eq_left h,Nat.sub_zero,List.drop_zero]
theorem cut_drop (l:List D) (i:Nat) (h:i≤l.length):cutD l (some (i:Int)) none=l.drop i:=by
 show (l.drop (if (i:Int) < 0 then ((i:Int)+l.length).toNat else min (i:Int).toNat l.length)).take (l.length - (if (i:Int) < 0 then ((i:Int)+l.length).toNat else min (i:Int).toNat l.length))=_
 rw [if_neg (by exact Int.not_lt.mpr (Int.natCast_nonneg _)),Int.toNat_natCast,Nat.min_eq_left h,List.take_of_length_le]
 rw [List.length_drop]
 exact Nat.le_refl _
theorem d7 {α:Type} (g:α→D) (hg:∀ l:List α,immL (l.map g)=true) (l:List α) (n:Int) (hl:l.length≤1000):∃ l':List α,cB [.lst (l.map g),.int n]=.ok (.lst (l'.map g))∧l'.Perm l:=by
 refine zz fun P_ k_=>?_
 obtain ⟨i,hi,hm⟩:∃ i:Nat,i≤l.length∧n % ((l.length:Int)+1)=(i:Int):=by
  have h1:=Int.emod_nonneg n (show (l.length:Int)+1≠0 by omega)
  have h2:=Int.emod_lt_of_pos n (show 0 < (l.length:Int)+1 by omega)
  refine ⟨(n % ((l.length:Int)+1)).toNat, ?_, ?_⟩ <;> omega
 refine k_ ?_
 have p1:(l.drop i++l.take i).Perm l:=List.perm_append_comm.trans (by rw [List.take_append_drop])
 generalize e1:l.drop i++l.take i=l1 at p1
 have hop:opD .mod (.int n) (.int (((l.map g).length:Int)+1))=.ok (.int (i:Int)):=by
  rw [d5,List.length_map,if_pos (by omega),hm]
 have hadd:opD .add (.lst ((l.map g).drop i)) (.lst ((l.map g).take i))=.ok (.lst (l1.map g)):=by
  rw [opD_7,if_pos (by rw [List.length_drop,List.length_take,List.length_map]; omega),← e1,List.map_append,List.map_drop,List.map_take]
 have hi':i≤(l.map g).length:=by rw [List.length_map]; exact hi
 have s0:runS t0 (.set 2 (.bin .mod (.var 1) (.bin .add (.bi .len [(.var 0)]) (.int 1)))) [some (.lst (l.map g),false),some (.int n,false),none,none]=.nx [some (.lst (l.map g),false),some (.int n,false),some (.int i,true),none] :=
  aR (ar (x:=.int n) rfl (ar (aD (x:=.lst (l.map g)) rfl rfl) (y:=.int 1) rfl rfl) hop) rfl
 have a1:runE t0 (.sl (.var 0) (.var 2) .nil) [some (.lst (l.map g),false),some (.int n,false),some (.int i,true),none]=.ok (.lst ((l.map g).drop i),.sto []):=by
  have:slD (.lst (l.map g)) (some (some (i:Int))) (some none)=.ok (.lst ((l.map g).drop i),.sto []):=by rw [slD_1,if_pos (hg l),cut_drop _ _ hi']
  rw [← this,rE_sl]
  rfl
 have a2:runE t0 (.sl (.var 0) .nil (.var 2)) [some (.lst (l.map g),false),some (.int n,false),some (.int i,true),none]=.ok (.lst ((l.map g).take i),.sto []):=by
  have:slD (.lst (l.map g)) (some none) (some (some (i:Int)))=.ok (.lst ((l.map g).take i),.sto []):=by rw [slD_1,if_pos (hg l),cut_take _ _ hi']
  rw [← this,rE_sl]
  rfl
 have s1:runS t0 (.set 3 (.bin .add (.sl (.var 0) (.var 2) .nil) (.sl (.var 0) .nil (.var 2)))) [some (.lst (l.map g),false),some (.int n,false),some (.int i,true),none]=.nx [some (.lst (l.map g),false),some (.int n,false),some (.int i,true),some (.lst (l1.map g),true)] :=
  aR (ar a1 a2 hadd) (by rw [gA (hg l1)]; rfl)
 have hc:runE t0 (.cmp .eq (.bin .mod (.var 1) (.int 3)) (.int 1)) [some (.lst (l.map g),false),some (.int n,false),some (.int i,true),some (.lst (l1.map g),true)]=.ok (.bl (n % 3 == 1),.sto []) :=
  az (ar (x:=.int n) (y:=.int 3) rfl rfl (d5 n 3)) (y:=.int 1) rfl rfl
 by_cases h3:n % 3=1
 ·refine ⟨l1.reverse,d6 rfl (by decide) ?_,(List.reverse_perm l1).trans p1⟩
  have hb:(n % 3 == 1)=true:=by rw [h3]; rfl
  rw [hb] at hc
  have s2:runS t0 (.ifs (.cmp .eq (.bin .mod (.var 1) (.int 3)) (.int 1)) [.rvs 3] []) [some (.lst (l.map g),false),some (.int n,false),some (.int i,true),some (.lst (l1.map g),true)]=.nx [some (.lst (l.map g),false),some (.int n,false),some (.int i,true),some (.lst (l1.reverse.map g),true)]:=by
   rw [cU hc]
   refine be ?_
   rw [rS_rvs,List.map_reverse]
   show (if immL (l1.map g)=true then _ else _)=_
   rw [if_pos (hg l1)]
   rfl
  exact (ai s0).trans ((ai s1).trans ((ai s2).trans (ft (is:=[3]) rfl)))
 ·refine ⟨l1,d6 rfl (by decide) ?_,p1⟩
  have hb:(n % 3 == 1)=false:=by
   cases q:(n % 3 == 1) with
   | false=>rfl
   | true=>exact absurd (eq_of_beq q) h3
  rw [hb] at hc
  exact (ai s0).trans ((ai s1).trans ((ai ((ba hc).trans bo)).trans (ft (is:=[3]) rfl)))
theorem valD_perm {κ:Type} [DecidableEq κ] {k:κ} {a b:List (κ × D)} (h:a.Perm b) (hn:(a.map (·.1)).Nodup):valD a k=valD b k:=by
 induction h with
 | nil=>rfl
 | cons x _ ih =>
  rw [List.map_cons,List.nodup_cons] at hn
  by_cases e:x.1=k
  ·rw [bn e,bn e]
  ·rw [aZ e,aZ e,ih hn.2]
 | swap x y l =>
  have hxy:y.1≠x.1:=fun e=>by
   rw [List.map_cons,List.map_cons,List.nodup_cons] at hn
   exact hn.1 (by rw [e]; exact List.mem_cons_self)
  by_cases e:y.1=k
  ·have e2:¬ x.1=k:=fun z=>hxy (e.trans z.symm)
   rw [bn e,aZ e2,bn e]
  ·by_cases e2:x.1=k
   ·rw [aZ e,bn e2,bn e2]
   ·rw [aZ e,aZ e2,aZ e2,aZ e]
 | trans h1 _ ih1 ih2=>exact (ih1 hn).trans (ih2 ((h1.map (·.1)).nodup_iff.mp hn))
end K11
namespace K11
open Vi K12
open PySem (Str)
theorem eR {M:Tab} {f c:Nat} {m:Str} {o:E} {as:List E} {ρ:Env} {fs:List (Str × D)} {ds:List D} {k k':Kd} {d:D} (h1:runE M o ρ=.ok (.obj c fs,k)) (h2:bY M as ρ=.ok (ds,k')) (hl:fs.lookup m=none) (h3:M.fn f (.obj c fs::ds)=.ok d):runE M (.meth f m o as) ρ=.ok (d,.sto []):=by
 rw [rE_meth,h1]
 simp only [R.ok_bind,h2,hl,if_true,h3,R.pure_eq]
theorem run_get1 {M:Tab} {a i:E} {ρ:Env} {x y:D} {o:Option D} {k k':Kd} (h1:runE M a ρ=.ok (x,k)) (h2:runE M i ρ=.ok (y,k')) (h3:da x y=some o):runE M (.get1 a i) ρ=.ok (o.getD .non,immK (o.getD .non)):=by
 rw [jP,h1]
 simp only [R.ok_bind,h2,h3,R.pure_eq]
theorem fK {M:Tab} {f:Nat} {as:List E} {ρ:Env} {ds:List D} {k:Kd} {d:D} (h:bY M as ρ=.ok (ds,k)) (h2:M.new f ds=.ok d):runE M (.make f as) ρ=.ok (d,.sto []):=by
 rw [rE_make,h]
 simp only [R.ok_bind,h2,R.pure_eq]
theorem valD_in {κ:Type} [DecidableEq κ] {k:κ} {v:D}:∀ {l:List (κ × D)},valD l k=some v→∃ p∈l,p.2=v
 | [],h=>by injection h
 | p::l,h=>by
  by_cases e:p.1=k
  ·rw [bn e] at h
   exact ⟨p,List.mem_cons_self,Option.some.inj h⟩
  ·rw [aZ e] at h
   obtain ⟨q,hq,eq⟩:=valD_in h
   exact ⟨q,List.mem_cons_of_mem _ hq,eq⟩
section
variable {marks:List (Int × Int)} {rows:List (Int × List Int)} {shuts:List Int} {found:List (List Key × D)}
theorem rank_val (s:Int):∃ i,(valD (marks.map cY) (Sum.inl s:Key)).getD (.int 0)=.int i:=by
 cases h:valD (marks.map cY) (Sum.inl s:Key) with
 | none=>exact ⟨0,rfl⟩
 | some v =>
  refine zz fun P_ k_=>?_
  obtain ⟨p,hp,e⟩:=valD_in h
  obtain ⟨q,_,eq⟩:=List.mem_map.mp hp
  refine k_ ?_
  exact ⟨q.2,by rw [← e,← eq]; rfl⟩
theorem row_val (s:Int):(valD (rows.map rowK) (Sum.inl s:Key)).getD .non=.non∨∃ r:List Int,(valD (rows.map rowK) (Sum.inl s:Key)).getD .non=.tup (r.map D.int):=by
 cases h:valD (rows.map rowK) (Sum.inl s:Key) with
 | none=>exact .inl rfl
 | some v =>
  refine zz fun P_ k_=>?_
  obtain ⟨p,hp,e⟩:=valD_in h
  obtain ⟨q,_,eq⟩:=List.mem_map.mp hp
  refine k_ ?_
  exact .inr ⟨q.2,by rw [← e,← eq]; rfl⟩
noncomputable abbrev flds (a b c d : D) : List (Str × D) := [("rank_by_sign", a), ("row_by_sign", b), ("shut_by_sign", c), ("sign_by_pair", d)]
theorem lk1 {a b c d : D} : (flds a b c d).lookup ("rank_by_sign" : Str) = some a := by simp [flds, List.lookup]
theorem lk2 {a b c d : D} : (flds a b c d).lookup ("row_by_sign" : Str) = some b := by simp [flds, List.lookup, n1]
theorem lk3 {a b c d : D} : (flds a b c d).lookup ("shut_by_sign" : Str) = some c := by simp [flds, List.lookup, n2, n3]
theorem lkN {a b c d : D} {m : Str} (h : ((m == ("rank_by_sign" : Str)) || (m == ("row_by_sign" : Str)) || (m == ("shut_by_sign" : Str)) || (m == ("sign_by_pair" : Str))) = false) : (flds a b c d).lookup m = none := by
 simp only [Bool.or_eq_false_iff] at h
 simp [flds,List.lookup,h]
theorem retk {d:D} {M:Tab} {e:E} {ρ:Env} (h:runE M e ρ=.ok (d,immK d)) (hd:d.imm=true):aA M [.ret e] ρ=.rt d:=by
 unfold immK at h
 rw [if_pos hd] at h
 exact ft h
theorem trank_eq (s:Int):hU [tabD marks rows shuts found,.int s]=.ok ((valD (marks.map cY) (Sum.inl s:Key)).getD (.int 0)):=by
 obtain ⟨i,hi⟩:=rank_val (marks:=marks) s
 refine d6 rfl (by decide) (ft (jM (dM (d:=.dK (marks.map cY)) rfl lk1) (y:=.int s) rfl (w:=.int 0) rfl rfl rfl ?_))
 rw [hi]
 rfl
theorem trow_eq (s:Int):r_trow [tabD marks rows shuts found,.int s]=.ok ((valD (rows.map rowK) (Sum.inl s:Key)).getD .non):=by
 refine d6 rfl (by decide) (retk (run_get1 (dM (d:=.dK (rows.map rowK)) rfl lk2) (y:=.int s) rfl rfl) ?_)
 rcases row_val (rows:=rows) s with h | ⟨r,h⟩
 ·rw [h]; rfl
 ·rw [h]; exact cI r
end
end K11
namespace K11
open Vi K12
open PySem (Str)
section
variable {marks:List (Int × Int)} {rows:List (Int × List Int)} {shuts:List Int} {found:List (List Key × D)}
theorem m_rank {a b c d : D} : (flds a b c d).lookup ("rank" : Str) = none := lkN (by decide +kernel)
theorem m_row {a b c d : D} : (flds a b c d).lookup ("row" : Str) = none := lkN (by decide +kernel)
theorem ne_int (i:Int):cmpD .ne (.int i) (.int i)=.ok false:=by
 show R.ok (!(i == i))=_
 rw [beq_self_eq_true]
 rfl
end
end K11
namespace K11
open Vi K12
open PySem (Str)
section
variable {marks marks':List (Int × Int)} {rows rows':List (Int × List Int)} {shuts shuts':List Int} {found found2:List (List Key × D)}
theorem key_mk {l:List (Int × Int)} (h:(l.map (·.1)).Nodup):((l.map cY).map (·.1)).Nodup:=by
 have:=cW h
 rw [List.map_map] at this ⊢
 exact this
theorem key_rk {l:List (Int × List Int)} (h:(l.map (·.1)).Nodup):((l.map rowK).map (·.1)).Nodup:=by
 have:=cW h
 rw [List.map_map] at this ⊢
 exact this
end
end K11
namespace K11
open Vi K12
open PySem (Str)
theorem sort_up (ns:List Int):(sortI ns).Pairwise (· ≤ ·):=by
 have:=List.pairwise_mergeSort (le:=fun a b:Int=>decide (a≤b)) (fun a b c h1 h2=>by simp at h1 h2 ⊢; exact Int.le_trans ‹_› ‹_›) (fun a b=>by simp; omega) ns
 exact this.imp fun h=>by simpa using h
section
variable {marks marks':List (Int × Int)} {rows rows':List (Int × List Int)} {shuts shuts':List Int} {found:List (List Key × D)}
theorem m_marks {a b c d : D} : (flds a b c d).lookup ("marks" : Str) = none := lkN (by decide +kernel)
theorem m_rows {a b c d : D} : (flds a b c d).lookup ("rows" : Str) = none := lkN (by decide +kernel)
theorem m_shuts {a b c d : D} : (flds a b c d).lookup ("shuts" : Str) = none := lkN (by decide +kernel)
theorem tupsM {l:List (Int × Int)} (h:(l.map (·.1)).Nodup) (hl:l.length≤60):d8 (l.map aB):=by
 refine ⟨fun d hd=>?_,immM l, ?_, ?_⟩
 ·obtain ⟨m,_,e⟩:=List.mem_map.mp hd
  rw [← e]; rfl
 ·rw [List.map_map]; exact h
 ·rw [List.length_map]; omega
theorem tupsR {l:List (Int × List Int)} (h:(l.map (·.1)).Nodup) (hl:l.length≤60):d8 (l.map rowD):=by
 refine ⟨fun d hd=>?_,immR l, ?_, ?_⟩
 ·obtain ⟨m,_,e⟩:=List.mem_map.mp hd
  rw [← e]; rfl
 ·rw [List.map_map]; exact h
 ·rw [List.length_map]; omega
theorem itemsM (l:List (Int × Int)):bE (l.map cY)=l.map aB:=by
 unfold bE
 rw [List.map_map]
 rfl
theorem itemsR (l:List (Int × List Int)):bE (l.map rowK)=l.map rowD:=by
 unfold bE
 rw [List.map_map]
 rfl
theorem imm_sortT {l:List D} (h:immL l=true):immL (sortT l)=true:=dh.mpr fun d hd=>dh.mp h d ((eQ l).mem_iff.mp hd)
theorem ja {l l':List D} (p:l'.Perm l) (t:d8 l):sortT l'=sortT l:=jF ((eQ l').trans p) (jE l') t.2.2.1
theorem tmarks_eq (h:(marks.map (·.1)).Nodup) (hl:marks.length≤60):eX [tabD marks rows shuts found]=.ok (.lst (sortT (marks.map aB))):=by
 refine d6 rfl (by decide) (ft (is:=[]) ?_)
 have b:biD .sortI [.dK (marks.map cY)]=.ok (.lst (sortT (marks.map aB))):=by rw [biD_22,itemsM,if_pos (tupsM h hl)]
 rw [← gA (imm_sortT (immM marks))]
 exact aD (dM (d:=.dK (marks.map cY)) rfl lk1) b
theorem trows_eq (h:(rows.map (·.1)).Nodup) (hl:rows.length≤60):fX [tabD marks rows shuts found]=.ok (.lst (sortT (rows.map rowD))):=by
 refine d6 rfl (by decide) (ft (is:=[]) ?_)
 have b:biD .sortI [.dK (rows.map rowK)]=.ok (.lst (sortT (rows.map rowD))):=by rw [biD_22,itemsR,if_pos (tupsR h hl)]
 rw [← gA (imm_sortT (immR rows))]
 exact aD (dM (d:=.dK (rows.map rowK)) rfl lk2) b
theorem shut_keys (l:List Int):((l.map dq).map fun kv=>keyD kv.1)=l.map D.int:=by
 rw [List.map_map]
 rfl
theorem tshuts_eq (hl:shuts.length≤60):eV [tabD marks rows shuts found]=.ok (.lst ((sortI shuts).map D.int)):=by
 refine d6 rfl (by decide) (ft (is:=[]) ?_)
 have b:biD .sorted [.dK (shuts.map dq)]=.ok (.lst ((sortI shuts).map D.int)):=by
  show (match iR ((shuts.map dq).map fun kv=>keyD kv.1) with | some m=>R.ok (D.lst m) | none=>.bad)=_
  rw [shut_keys,gX _ (by omega)]
 rw [← gA (dW (sortI shuts))]
 exact aD (dM (d:=.dK (shuts.map dq)) rfl lk3) b
theorem eK {f:D→D→Option Bool}:∀ {l:List D},(∀ d∈l,f d d=some true)→eqLs f l l=some true
 | [],_=>rfl
 | d::l,h=>by
  unfold eqLs
  rw [h d List.mem_cons_self,eK fun x hx=>h x (List.mem_cons_of_mem _ hx)]
  rfl
theorem iJ {n:Nat} (i:Int):eqN (n+1) (.int i) (.int i)=some true:=by
 show some (i == i)=_
 rw [beq_self_eq_true]
theorem eqN_il {n:Nat} (l:List Int):eqN (n+2) (.tup (l.map D.int)) (.tup (l.map D.int))=some true:=eK fun d hd=>by
 obtain ⟨i,_,e⟩:=List.mem_map.mp hd
 rw [← e]; exact iJ i
theorem eqN_mark {n:Nat} (m:Int × Int):eqN (n+2) (aB m) (aB m)=some true:=eK fun d hd=>by
 rcases List.mem_cons.mp hd with e | hd
 ·rw [e]; exact iJ _
 ·rw [List.mem_singleton.mp hd]; exact iJ _
theorem eqN_row {n:Nat} (m:Int × List Int):eqN (n+3) (rowD m) (rowD m)=some true:=eK fun d hd=>by
 rcases List.mem_cons.mp hd with e | hd
 ·rw [e]; exact iJ _
 ·rw [List.mem_singleton.mp hd]; exact eqN_il _
theorem j7 {n:Nat} {l:List D} (h:∀ d∈l,eqN n d d=some true):eqN (n+1) (.lst l) (.lst l)=some true:=eK h
theorem eq3 {a b:List D} (c:List Int) (ha:∀ d∈a,∃ m,d=aB m) (hb:∀ d∈b,∃ m,d=rowD m):eqD (.lst [.lst a,.lst b,.lst (c.map D.int)]) (.lst [.lst a,.lst b,.lst (c.map D.int)])=some true:=by
 refine j7 (n:=7) fun d hd=>?_
 rcases List.mem_cons.mp hd with e | hd
 ·rw [e]
  exact j7 (n:=6) fun d hd=>by
   obtain ⟨m,e⟩:=ha d hd
   rw [e]; exact eqN_mark m
 ·rcases List.mem_cons.mp hd with e | hd
  ·rw [e]
   exact j7 (n:=6) fun d hd=>by
    obtain ⟨m,e⟩:=hb d hd
    rw [e]; exact eqN_row m
  ·rw [List.mem_singleton.mp hd]
   exact j7 (n:=6) fun d hd=>by
    obtain ⟨m,_,e⟩:=List.mem_map.mp hd
    rw [← e]; exact iJ m
end
end K11
namespace K11
open Vi K12
open PySem (Str)
theorem bf.perm {marks marks':List (Int × Int)} {rows rows':List (Int × List Int)} {shuts shuts':List Int} (T:bf marks rows shuts) (pm:marks'.Perm marks) (pr:rows'.Perm rows) (ps:shuts'.Perm shuts):bf marks' rows' shuts':=by
 refine zz fun P_ k_=>?_
 obtain ⟨idx,hi⟩:=T.ahead
 obtain ⟨sz,h1,h2⟩:=T.size
 refine k_ ?_
 have mr:∀ s,s∈rows'.map (·.1)↔s∈rows.map (·.1):=fun s=>(pr.map (·.1)).mem_iff
 refine ⟨(((pm.map (·.1)).append (pr.map (·.1))).nodup_iff).mpr T.nodup,ps.nodup_iff.mpr T.sh,fun s hs=>?_,fun s t r a b c d e=>T.same s t r (pr.mem_iff.mp a) (pr.mem_iff.mp b) c (fun z=>d (ps.mem_iff.mpr z)) (fun z=>e (ps.mem_iff.mpr z)),fun s r h=>T.short s r (pr.mem_iff.mp h),by rw [pm.length_eq,pr.length_eq]; exact T.few,by rw [ps.length_eq]; exact T.fewS,⟨idx,fun s r h p hp hr=>hi s r (pr.mem_iff.mp h) p hp ((mr p).mp hr)⟩,⟨sz,fun s r h=>h1 s r (pr.mem_iff.mp h),fun p hp=>h2 p fun z=>hp ((mr p).mpr z)⟩⟩
 obtain ⟨r,h,l⟩:=T.two s (ps.mem_iff.mp hs)
 exact ⟨r,pr.mem_iff.mpr h,l⟩
theorem bf.bare {marks:List (Int × Int)} {rows:List (Int × List Int)} {shuts:List Int} (T:bf marks rows shuts):bf marks [] [] :=
 ⟨by rw [List.map_nil,List.append_nil]; exact T.nm,List.nodup_nil,fun _ h=>(nomatch h),fun _ _ _ h=>(nomatch h),fun _ _ h=>(nomatch h),Nat.le_trans (Nat.add_le_add_left (Nat.zero_le _) _) T.few,Nat.zero_le _,⟨fun _=>0,fun _ _ h=>(nomatch h)⟩,⟨fun _=>1,fun _ _ h=>(nomatch h),fun _ _=>rfl⟩⟩
theorem cut_few (ns:List Int):(cutD ns (some 1) (some 63)).length≤100:=by
 unfold cutD
 rw [List.length_take]
 refine Nat.le_trans (Nat.min_le_left _ _) (Nat.le_trans (Nat.sub_le _ _) ?_)
 show (if (63:Int) < 0 then ((63:Int)+ns.length).toNat else min (63:Int).toNat ns.length)≤100
 rw [if_neg (by decide)]
 exact Nat.le_trans (Nat.min_le_left _ _) (by decide)
theorem cut_map {α β:Type} (f:α→β) (l:List α) (lo hi:Option Int):cutD (l.map f) lo hi=(cutD l lo hi).map f:=by
 unfold cutD
 rw [List.length_map,List.map_take,List.map_drop]
theorem flats3 {a b c:List D} (ha:immL a=true) (hb:immL b=true) (hc:immL c=true):fe [.lst a,.lst b,.lst c]=some [a,b,c]:=by
 simp only [fe,ha,hb,hc,if_true]
end K11
namespace K13
open Vi K12 K11
open PySem (Str)
noncomputable def iI:Fn:=⟨1,4,[
 .for [1] true .each [(.ix (.var 0) (.int 0))] [.ifs (.or (.not (.bi .isTuple [(.var 1)])) (.or (.not (.call 9 [(.ix (.var 1) (.int 0))])) (.not (.call 9 [(.ix (.var 1) (.int 1))])))) [.ret (.bl false)] []],
 .for [2] true .each [(.ix (.var 0) (.int 1))] [.ifs (.or (.not (.bi .isTuple [(.var 2)])) (.not (.bi .isTuple [(.ix (.var 2) (.int 1))]))) [.ret (.bl false)] [],.ifs (.or (.not (.call 9 [(.ix (.var 2) (.int 0))])) (.not (.bi .all [(.comp (.call 9 [(.var 3)]) [3] true .each [(.ix (.var 2) (.int 1))] (.bl true))]))) [.ret (.bl false)] []],
 .ret (.bi .all [(.comp (.call 9 [(.var 3)]) [3] true .each [(.ix (.var 0) (.int 2))] (.bl true))])]⟩
noncomputable def fS:Fn:=⟨2,4,[
 .ifs (.cmp .eq (.var 1) (.int 0)) [.set 2 (.lst [(.meth 23 "marks" (.var 0) []), (.meth 24 "rows" (.var 0) []), (.meth 25 "shuts" (.var 0) [])])] [.set 2 (.lst [(.meth 25 "shuts" (.var 0) []), (.meth 24 "rows" (.var 0) []), (.meth 23 "marks" (.var 0) [])]), .rvsL 2],
 .ifs (.or (.not (.bi .all [(.comp (.bi .isList [(.var 3)]) [3] true .each [(.var 2)] (.bl true))])) (.not (.call 30 [(.var 2)]))) [.ret .non] [],
 .ret (.var 2)]⟩
noncomputable def gf:Fn:=⟨1,17,[
 .set 1 (.call 8 [(.var 0),(.int 0)]),
 .unp [2,3,4,5] (.call 13 [(.sl (.var 0) (.int 1) (.int 63))]),
 .set 6 (.comp (.var 7) [7] true .each [(.var 3)] (.cmp .eq (.bi .len [(.ix (.var 7) (.int 1))]) (.int 1))),
 .set 8 (.make 0 [(.call 26 [(.var 2),(.bin .fdiv (.var 1) (.int 2))]),(.call 26 [(.var 3),(.bin .fdiv (.var 1) (.int 6))]),(.call 26 [(.var 4),(.bin .fdiv (.var 1) (.int 18))])]),
 .set 9 (.make 0 [(.call 26 [(.var 2),(.bin .fdiv (.var 1) (.int 54))]),(.call 26 [(.var 6),(.bin .fdiv (.var 1) (.int 108))]),(.lst [])]),
 .set 10 (.lst [(.lst [(.bi .sortT [(.var 2)]),(.bi .sortT [(.var 3)]),(.bi .sorted [(.var 4)])]),(.lst [(.bi .sortT [(.var 2)]),(.bi .sortT [(.var 6)]),(.lst [])])]),
 .for [11] true .each [(.lst [(.int 0),(.int 1),(.bin .mod (.var 1) (.int 2))])] [.for [12,13] false .zip [(.lst [(.var 8),(.var 9)]),(.var 10)] [.set 14 (.call 31 [(.var 12),(.var 11)]),.ifs (.or (.cmp .isN (.var 14) .non) (.cmp .ne (.var 14) (.var 13))) [.ret (.bl false)] [],.chg 14 (.bin .mod (.bin .fdiv (.var 1) (.int 4)) (.int 2))]],
 .for [15, 7] false .each [(.var 3)] [.ifs (.or (.cmp .ne (.meth 21 "row" (.var 8) [(.var 15)]) (.var 7)) (.and (.cmp .eq (.bi .len [(.var 7)]) (.int 2)) (.and (.cmp .nmem (.var 15) (.var 4)) (.cmp .ne (.meth 7 "pair" (.var 8) [(.ix (.var 7) (.int 0)), (.ix (.var 7) (.int 1))]) (.var 15))))) [.ret (.bl false)] []],
 .ifs (.not (.bi .all [(.comp (.cmp .eq (.meth 20 "rank" (.var 8) [(.var 15)]) (.var 16)) [15, 16] false .each [(.var 2)] (.bl true))])) [.ret (.bl false)] [],
 .set 14 (.call 31 [(.var 8),(.int 0)]),
 .ret (.and (.cmp .notN (.var 14) .non) (.cmp .eq (.call 31 [(.make 0 [(.ix (.var 14) (.int 0)),(.ix (.var 14) (.int 1)),(.ix (.var 14) (.int 2))]),(.int 1)]) (.ix (.var 10) (.int 0))))]⟩
noncomputable def t30:Tab:=⟨fun i=>match i with | 9=>hJ | _=>fun _=>.bad,nofn⟩
noncomputable def h8:=iI.run t30
noncomputable def t31:Tab:=⟨fun i=>match i with | 23=>eX | 24=>fX | 25=>eV | 30=>h8 | _=>fun _=>.bad,nofn⟩
noncomputable def cM:=fS.run t31
noncomputable def t33:Tab:=⟨fun i=>match i with | 7=>hZ | 8=>dE | 13=>hV | 20=>hU | 21=>r_trow | 26=>cB | 31=>cM | _=>fun _=>.bad,fun i=>match i with | 0=>dN | _=>fun _=>.bad⟩
noncomputable def r_law:=gf.run t33
end K13
namespace K13
open Vi K12 K11
open PySem (Str)
theorem bind1 {ρ:Env} {i:Nat} {d:D} (h:d.imm=true) (hi:i < ρ.length):bv ρ [i] true d .old=some (ρ.set i (some (d,true))):=by
 show bP ρ i d (if d.imm=true then .sto [] else .old)=_
 rw [if_pos h]
 exact if_pos hi
theorem kq {α:Type} (l:List α):biD .all [.lst (l.map fun _=>.bl true)]=.ok (.bl true):=by
 rw [biD_6,bools_il (fun _=>true) l]
 show R.ok (D.bl ((l.map fun _=>true).all id))=_
 congr 2
 rw [List.all_eq_true]
 intro x hx
 obtain ⟨_,_,e⟩:=List.mem_map.mp hx
 exact e.symm
theorem insT_map {α:Type} (g:α→D) (a:α) (l:List α):∃ l':List α,insT (g a) (l.map g)=l'.map g∧l'.Perm (a::l):=by
 induction l with
 | nil=>exact ⟨[a],rfl,.refl _⟩
 | cons b l ih =>
  show ∃ l':List α,(if hkD (g a)≤hkD (g b) then g a::g b::l.map g else g b::insT (g a) (l.map g))=l'.map g∧_
  by_cases h:hkD (g a)≤hkD (g b)
  ·rw [if_pos h]; exact ⟨a::b::l,rfl,.refl _⟩
  ·rw [if_neg h]
   obtain ⟨l',e,p⟩:=ih
   exact ⟨b::l',by rw [e]; rfl,(p.cons b).trans (.swap a b l)⟩
theorem gY {α:Type} (g:α→D) (l:List α):∃ l':List α,sortT (l.map g)=l'.map g∧l'.Perm l:=by
 induction l with
 | nil=>exact ⟨[],rfl,.refl _⟩
 | cons a l ih =>
  refine zz fun P_ k_=>?_
  obtain ⟨l',e,p⟩:=ih
  obtain ⟨l2,e2,p2⟩:=insT_map g a l'
  refine k_ ?_
  refine ⟨l2, ?_,p2.trans (p.cons a)⟩
  show insT (g a) (sortT (l.map g))=_
  rw [e,e2]
noncomputable abbrev om (a:Option (Int × Int)):O:=a.map fun m=>(aB m,true)
noncomputable abbrev orw (a:Option (Int × List Int)):O:=a.map fun m=>(rowD m,true)
noncomputable abbrev l3 (ms:List (Int × Int)) (rs:List (Int × List Int)) (c:List Int):D:=.lst [.lst (ms.map aB),.lst (rs.map rowD),.lst (c.map D.int)]
theorem i5 {ρ:Env} {a:E} {l:List Int} {x:D} {k:Kd} (hl:l.length≤1000) (h:runE t30 a ρ=.ok (x,k)) (hx:dU .each [x]=some (l.map D.int)) (h3:3 < ρ.length) (hn:∀ y:Int,bv (inComp ρ [3]) [3] true (.int y) .old=some ((inComp ρ [3]).set 3 (some (.int y,true))))
  (hg:∀ y:Int,getV ((inComp ρ [3]).set 3 (some (.int y,true))) 3=.ok (.int y,.sto [])):runE t30 (.bi .all [.comp (.call 9 [.var 3]) [3] true .each [a] (.bl true)]) ρ=.ok (.bl true,.sto []):=by
 refine aD (z:=.bl true) (cj (b:=true) (gH h hx) (by rw [List.length_map]; exact Nat.le_trans hl (by decide)) (cr D.int (fun _=>.bl true) l fun y _=>?_)) (kq l)
 exact cR (hn y) rfl (aI (f:=9) (ag (cg (hg y)) au) (show t30.fn 9 [.int y]=_ from fG y))
theorem kinds_ok (ms:List (Int × Int)) (rs:List (Int × List Int)) (c:List Int) (hs:∀ s r,(s,r)∈rs→r.length≤1000) (hc:c.length≤1000):h8 [l3 ms rs c]=.ok (.bl true):=by
 let B1:List S:=[.ifs (.or (.not (.bi .isTuple [(.var 1)])) (.or (.not (.call 9 [(.ix (.var 1) (.int 0))])) (.not (.call 9 [(.ix (.var 1) (.int 1))])))) [.ret (.bl false)] []]
 let B2:List S:=[.ifs (.or (.not (.bi .isTuple [(.var 2)])) (.not (.bi .isTuple [(.ix (.var 2) (.int 1))]))) [.ret (.bl false)] [],.ifs (.or (.not (.call 9 [(.ix (.var 2) (.int 0))])) (.not (.bi .all [(.comp (.call 9 [(.var 3)]) [3] true .each [(.ix (.var 2) (.int 1))] (.bl true))]))) [.ret (.bl false)] []]
 have turn1:∀ (m:Int × Int) (a:Option (Int × Int)),bT [1] true (fun ρ1=>aA t30 B1 ρ1) [some (l3 ms rs c,false),om a,none,none] (aB m)=.nx [some (l3 ms rs c,false),om (some m),none,none]:=fun m a=>by
  have hb:bv [some (l3 ms rs c,false),om a,none,none] [1] true (aB m) .old=some [some (l3 ms rs c,false),om (some m),none,none]:=bind1 (j3 m) (show (1:Nat) < 4 by decide)
  show (match bv [some (l3 ms rs c,false),om a,none,none] [1] true (aB m) .old with | none=>Out.bad | some ρ1=>aA t30 B1 ρ1)=_
  rw [hb]
  refine be ((ba (k:=.sto []) ?_).trans bo)
  refine (cO (dr (t:=true) (aD (x:=aB m) (z:=.bl true) rfl rfl))).trans ((cO (dr (t:=true) (aI (f:=9) (ag (x:=.int m.1) (k:=.sto []) rfl au) (show t30.fn 9 [.int m.1]=_ from fG m.1)))).trans ?_)
  exact dr (t:=true) (aI (f:=9) (ag (x:=.int m.2) (k:=.sto []) rfl au) (show t30.fn 9 [.int m.2]=_ from fG m.2))
 refine zz fun P_ k_=>?_
 obtain ⟨ρ1,e1,a,q1⟩:=cP (f:=bT [1] true fun ρ1=>aA t30 B1 ρ1) (fun _ ρ=>∃ a,ρ=[some (l3 ms rs c,false),om a,none,none]) aB ms [] [some (l3 ms rs c,false),none,none,none] ⟨none,rfl⟩
  (fun p x q ρ _ h=>by
   obtain ⟨w,h⟩:=h
   rw [h]
   exact ⟨_,turn1 x w,some x,rfl⟩)
 have s1:runS t30 (.for [1] true .each [(.ix (.var 0) (.int 0))] B1) [some (l3 ms rs c,false),none,none,none]=.nx [some (l3 ms rs c,false),om a,none,none]:=by
  have hI:runI t30 .each [(.ix (.var 0) (.int 0))] [some (l3 ms rs c,false),none,none,none]=.ok (ms.map aB,.old):=rfl
  rw [cV hI rfl]
  have el:aK [some (l3 ms rs c,false),none,none,none] .old=[some (l3 ms rs c,false),none,none,none]:=rfl
  rw [el,e1,q1]
  cases a <;> rfl
 have turn2:∀ (m:Int × List Int) (b:Option (Int × List Int)),m∈rs→bT [2] true (fun ρ1=>aA t30 B2 ρ1) [some (l3 ms rs c,false),om a,orw b,none] (rowD m)=.nx [some (l3 ms rs c,false),om a,orw (some m),none]:=fun m b hm=>by
  have hb:bv [some (l3 ms rs c,false),om a,orw b,none] [2] true (rowD m) .old=some [some (l3 ms rs c,false),om a,orw (some m),none]:=bind1 (dP m) (show (2:Nat) < 4 by decide)
  show (match bv [some (l3 ms rs c,false),om a,orw b,none] [2] true (rowD m) .old with | none=>Out.bad | some ρ1=>aA t30 B2 ρ1)=_
  rw [hb]
  have v2:runE t30 (.var 2) [some (l3 ms rs c,false),om a,orw (some m),none]=.ok (rowD m,.sto []):=cg (eG rfl (dP m))
  have i0:runE t30 (.ix (.var 2) (.int 0)) [some (l3 ms rs c,false),om a,orw (some m),none]=.ok (.int m.1,dG (.int m.1) (.sto [])):=fg v2 (y:=.int 0) rfl rfl
  have i1:runE t30 (.ix (.var 2) (.int 1)) [some (l3 ms rs c,false),om a,orw (some m),none]=.ok (.tup (m.2.map D.int),dG (.tup (m.2.map D.int)) (.sto [])):=fg v2 (y:=.int 1) rfl rfl
  refine (ai ((ba (k:=.sto []) ?_).trans bo)).trans (be ((ba (k:=.sto []) ?_).trans bo))
  ·exact (cO (dr (t:=true) (aD v2 (z:=.bl true) rfl))).trans (dr (t:=true) (aD i1 (z:=.bl true) rfl))
  ·refine (cO (dr (t:=true) (aI (f:=9) (ag i0 au) (show t30.fn 9 [.int m.1]=_ from fG m.1)))).trans (dr (t:=true) (k:=.sto []) ?_)
   exact i5 (hs m.1 m.2 hm) i1 rfl (show (3:Nat) < 4 by decide) (fun y=>rfl) fun y=>rfl
 obtain ⟨ρ2,e2,b,q2⟩:=cP (f:=bT [2] true fun ρ1=>aA t30 B2 ρ1) (fun _ ρ=>∃ b,ρ=[some (l3 ms rs c,false),om a,orw b,none]) rowD rs [] [some (l3 ms rs c,false),om a,none,none] ⟨none,rfl⟩
  (fun p x q ρ e h=>by
   obtain ⟨w,h⟩:=h
   rw [h]
   have hx:x∈rs:=by rw [List.nil_append] at e; rw [e]; exact List.mem_append_right _ List.mem_cons_self
   exact ⟨_,turn2 x w hx,some x,rfl⟩)
 refine k_ ?_
 have s2:runS t30 (.for [2] true .each [(.ix (.var 0) (.int 1))] B2) [some (l3 ms rs c,false),om a,none,none]=.nx [some (l3 ms rs c,false),om a,orw b,none]:=by
  have hI:runI t30 .each [(.ix (.var 0) (.int 1))] [some (l3 ms rs c,false),om a,none,none]=.ok (rs.map rowD,.old):=rfl
  rw [cV hI rfl]
  have el:aK [some (l3 ms rs c,false),om a,none,none] .old=[some (l3 ms rs c,false),om a,none,none]:=rfl
  rw [el,e2,q2]
  cases a <;> cases b <;> rfl
 refine d6 rfl (by decide) ((ai s1).trans ((ai s2).trans (ft (is:=[]) ?_)))
 exact i5 hc (x:=.lst (c.map D.int)) (k:=.old) rfl rfl (show (3:Nat) < 4 by decide) (fun y=>rfl) fun y=>rfl
end K13
namespace K13
open Vi K12 K11
open PySem (Str)
theorem run_rvsL {M:Tab} {i:Nat} {ρ:Env} {L:List D} {ls:List (List D)} (hl:ρ[i]?=some (some (.lst L,true))) (hf:fe L=some ls):runS M (.rvsL i) ρ=.nx (ρ.set i (some (.lst (ls.reverse.map D.lst),true))):=by
 rw [rS_rvsL,hl,ownL_1]
 simp only [hf]
theorem run_chg {M:Tab} {i:Nat} {e:E} {ρ:Env} {L:List D} {ls:List (List D)} {n:Int} {k:Kd} (h:runE M e ρ=.ok (.int n,k)) (hl:ρ[i]?=some (some (.lst L,true))) (hf:fe L=some ls) (hc:(∀ m∈ls,m.length < 1000)∧ls.length < 1000):runS M (.chg i e) ρ=.nx (ρ.set i none):=by
 rw [rS_chg,h,hl]
 simp only [ofR,ownL_1,hf]
 exact if_pos hc
theorem is_lists {M:Tab} {ρ:Env} {ls:List (List D)} {k:Kd} (hl:ls.length≤1000) (h:runI M .each [.var 2] ρ=.ok (ls.map D.lst,k)) (hb:∀ l:List D,bv (inComp ρ [3]) [3] true (.lst l) .old=some ((inComp ρ [3]).set 3 (some (.lst l,false)))) (hg:∀ l:List D,getV ((inComp ρ [3]).set 3 (some (.lst l,false))) 3=.ok (.lst l,.old)) :
  runE M (.bi .all [.comp (.bi .isList [.var 3]) [3] true .each [.var 2] (.bl true)]) ρ=.ok (.bl true,.sto []):=by
 refine aD (z:=.bl true) (cj (b:=true) h (by rw [List.length_map]; exact Nat.le_trans hl (by decide)) (cr D.lst (fun _=>.bl true) ls fun l _=>?_)) (kq ls)
 exact cR (hb l) rfl (aD (z:=.bl true) (cg (hg l)) rfl)
theorem told_ok {T : D} {ms : List (Int × Int)} {rs : List (Int × List Int)} {c : List Int} {fs : List (Str × D)} (eT : T = .obj 0 fs) (n1 : fs.lookup ("marks" : Str) = none) (n2 : fs.lookup ("rows" : Str) = none) (n3 : fs.lookup ("shuts" : Str) = none)
  (a1:eX [T]=.ok (.lst (ms.map aB))) (a2:fX [T]=.ok (.lst (rs.map rowD))) (a3:eV [T]=.ok (.lst (c.map D.int))) (hs:∀ s r,(s,r)∈rs→r.length≤1000) (hc:c.length≤1000) (w:Int):cM [T,.int w]=.ok (l3 ms rs c):=by
 subst eT
 let ρ:Env:=[some (.obj 0 fs,false),some (.int w,false),none,none]
 let ρ1:Env:=[some (.obj 0 fs,false),some (.int w,false),some (l3 ms rs c,true),none]
 have e1 : runE t31 (.meth 23 "marks" (.var 0) []) ρ = .ok (.lst (ms.map aB), .sto []) := eR (k := .old) rfl au n1 a1
 have e2 : runE t31 (.meth 24 "rows" (.var 0) []) ρ = .ok (.lst (rs.map rowD), .sto []) := eR (k := .old) rfl au n2 a2
 have e3 : runE t31 (.meth 25 "shuts" (.var 0) []) ρ = .ok (.lst (c.map D.int), .sto []) := eR (k := .old) rfl au n3 a3
 have s0:runS t31 (fS.body.getD 0 .pass) ρ=.nx ρ1:=by
  have cw:runE t31 (.cmp .eq (.var 1) (.int 0)) ρ=.ok (.bl (w == 0),.sto []):=az (x:=.int w) rfl (y:=.int 0) rfl rfl
  cases q:(w == 0) with
  | true =>
   rw [q] at cw
   exact (cU cw).trans (be (aR (fz (ag e1 (ag e2 (ag e3 au))) (show (3:Nat)≤1000000 by decide)) rfl))
  | false =>
   rw [q] at cw
   refine (ba cw).trans ((ai (aR (ρ':=[some (.obj 0 fs,false),some (.int w,false),some (.lst [.lst (c.map D.int),.lst (rs.map rowD),.lst (ms.map aB)],true),none]) (fz (ag e3 (ag e2 (ag e1 au))) (show (3:Nat)≤1000000 by decide)) rfl)).trans (be ?_))
   exact run_rvsL rfl (flats3 (dW c) (immR rs) (immM ms))
 have s1:runS t31 (fS.body.getD 1 .pass) ρ1=.nx ρ1:=by
  refine (ba (k:=.sto []) ?_).trans bo
  have il:=is_lists (M:=t31) (ρ:=ρ1) (ls:=[ms.map aB,rs.map rowD,c.map D.int]) (k:=.sto [2]) (show (3:Nat)≤1000 by decide) rfl (fun l=>rfl) fun l=>rfl
  exact (cO (dr (t:=true) il)).trans (dr (t:=true) (aI (f:=30) (ag (x:=l3 ms rs c) (k:=.sto [2]) rfl au) (show t31.fn 30 [l3 ms rs c]=_ from kinds_ok ms rs c hs hc)))
 exact d6 rfl (by decide) ((ai s0).trans ((ai s1).trans (ft (is:=[2]) rfl)))
section
variable {marks marks':List (Int × Int)} {rows rows':List (Int × List Int)} {shuts shuts':List Int} {found:List (List Key × D)}
theorem jA {ms:List (Int × Int)} {rs:List (Int × List Int)} (T:bf marks rows shuts) (pm:marks'.Perm marks) (pr:rows'.Perm rows) (ps:shuts'.Perm shuts) (em:sortT (marks.map aB)=ms.map aB) (er:sortT (rows.map rowD)=rs.map rowD) (qr:rs.Perm rows) (w:Int) :
  cM [tabD marks' rows' shuts' found,.int w]=.ok (l3 ms rs (sortI shuts)):=by
 have lm:marks.length≤60:=Nat.le_trans (Nat.le_add_right _ _) T.few
 have a1:=tmarks_eq (marks:=marks') (rows:=rows') (shuts:=shuts') (found:=found) ((pm.map (·.1)).nodup_iff.mpr T.nm) (by rw [pm.length_eq]; exact lm)
 have a2:=trows_eq (marks:=marks') (rows:=rows') (shuts:=shuts') (found:=found) ((pr.map (·.1)).nodup_iff.mpr T.nr) (by rw [pr.length_eq]; exact T.lr)
 have a3:=tshuts_eq (marks:=marks') (rows:=rows') (shuts:=shuts') (found:=found) (by rw [ps.length_eq]; exact T.fewS)
 rw [ja (pm.map aB) (tupsM T.nm lm),em] at a1
 rw [ja (pr.map rowD) (tupsR T.nr T.lr),er] at a2
 have es:sortI shuts'=sortI shuts:=jG ((cS shuts').trans ps) (sort_up shuts')
 rw [es] at a3
 refine told_ok rfl m_marks m_rows m_shuts a1 a2 a3 (fun s r h=>?_) ?_ w
 ·rcases T.short s r (qr.mem_iff.mp h) with z | z <;> rw [z] <;> decide
 ·rw [(cS shuts).length_eq]; exact Nat.le_trans T.fewS (by decide)
theorem bf.shorts (T:bf marks rows shuts) (p:Int × List Int→Bool) (hp:∀ r,p r=true→r.2.length=1):bf marks (rows.filter p) []:=by
 have sub:(rows.filter p).Sublist rows:=List.filter_sublist
 have mem:∀ {x},x∈rows.filter p→x∈rows∧x.2.length=1:=fun h=>⟨(List.mem_filter.mp h).1,hp _ (List.mem_filter.mp h).2⟩
 obtain ⟨idx,hi⟩:=T.ahead
 refine ⟨T.nodup.sublist ((List.Sublist.refl _).append (sub.map _)),List.nodup_nil,fun _ h=>(nomatch h),fun s t r h _ h2 _ _=>?_,fun s r h=>.inl (mem h).2,Nat.le_trans (Nat.add_le_add_left sub.length_le _) T.few,Nat.zero_le _,⟨idx,fun s r h q hq hm=>hi s r (mem h).1 q hq ((sub.map _).subset hm)⟩,⟨fun _=>1,fun s r h=>?_,fun _ _=>rfl⟩⟩
 ·have:=(mem h).2; rw [show r.length=2 from h2] at this; injection this with this; injection this
 ·obtain ⟨x,e⟩:=List.length_eq_one_iff.mp (mem h).2
  have e:r=[x]:=e
  rw [e]; exact ⟨rfl,show (1:Int)≤16 by decide⟩
theorem eq_l3 (ms:List (Int × Int)) (rs:List (Int × List Int)) (c:List Int):eqD (l3 ms rs c) (l3 ms rs c)=some true :=
 eq3 c (fun d hd=>by obtain ⟨m,_,e⟩:=List.mem_map.mp hd; exact ⟨m,e.symm⟩) (fun d hd=>by obtain ⟨m,_,e⟩:=List.mem_map.mp hd; exact ⟨m,e.symm⟩)
end
end K13
namespace K13
open Vi K12 K11
open PySem (Str)
noncomputable abbrev envL (ns:List Int) (h:Int) (marks:List (Int × Int)) (rows:List (Int × List Int)) (shuts pool:List Int) (sh rw t1 t2 du wy ak dd tl sg rk:O):Env :=
 [some (.lst (ns.map D.int),false),some (.int h,true),some (.lst (marks.map aB),true),some (.lst (rows.map rowD),true),some (.lst (shuts.map D.int),true),some (.lst (pool.map D.int),true),sh,rw,t1,t2,du,wy,ak,dd,tl,sg,rk]
noncomputable abbrev one (r:Int × List Int):Bool:=((r.2.map D.int).length:Int) == 1
theorem one_len {r:Int × List Int} (h:one r=true):r.2.length=1:=by
 have:=of_decide_eq_true (by simpa using h:decide (((r.2.map D.int).length:Int)=1)=true)
 rw [List.length_map] at this
 exact Int.ofNat.inj this
theorem gc (h n:Int) (hn:0 < n∧n < 1073741824):opD .fdiv (.int h) (.int n)=.ok (.int (h / n)):=by rw [opD_4,if_pos hn]
section
variable {ns:List Int} {h:Int} {marks marks' marks2 ms:List (Int × Int)} {rows rows' rs shorts shorts2 ss:List (Int × List Int)} {shuts shuts' pool:List Int} {found found2:List (List Key × D)}
theorem st2 (hr:rows.length≤60):runS t33 (gf.body.getD 2 .pass) (envL ns h marks rows shuts pool none none none none none none none none none none none)=.nx (envL ns h marks rows shuts pool (some (.lst ((rows.filter one).map rowD),true)) none none none none none none none none none none):=by
 have hI:runI t33 .each [.var 3] (envL ns h marks rows shuts pool none none none none none none none none none none none)=.ok (rows.map rowD,.sto [3]):=rfl
 refine aR (cj (b:=true) hI (by rw [List.length_map]; exact Nat.le_trans hr (by decide)) (gq rowD rowD one rows fun r _=>?_)) rfl
 have hb:bv (inComp (envL ns h marks rows shuts pool none none none none none none none none none none none) [7]) [7] true (rowD r) .old=some ((inComp (envL ns h marks rows shuts pool none none none none none none none none none none none) [7]).set 7 (some (rowD r,true))):=bind1 (dP r) (show (7:Nat) < 17 by decide)
 have v7:runE t33 (.var 7) ((inComp (envL ns h marks rows shuts pool none none none none none none none none none none none) [7]).set 7 (some (rowD r,true)))=.ok (rowD r,.sto []):=cg (eG rfl (dP r))
 have c:=az (o:=.eq) (aD (b:=.len) (fg v7 (i:=.int 1) (y:=.int 1) rfl (d:=.tup (r.2.map D.int)) rfl) (z:=.int (r.2.map D.int).length) rfl) (b:=.int 1) (y:=.int 1) rfl (t:=one r) rfl
 by_cases q:one r=true
 ·rw [if_pos q]
  rw [q] at c
  exact cR hb ((congrArg tru1 c).trans rfl) v7
 ·rw [if_neg q]
  rw [Bool.eq_false_iff.mpr q] at c
  exact turnC_f hb ((congrArg tru1 c).trans rfl)
noncomputable abbrev tO (m:List (Int × Int)) (r:List (Int × List Int)) (s:List Int) (f:List (List Key × D)):O:=some (tabD m r s f,true)
theorem st3 {sh:O} (hm:cB [.lst (marks.map aB),.int (h / 2)]=.ok (.lst (marks'.map aB))) (hr:cB [.lst (rows.map rowD),.int (h / 6)]=.ok (.lst (rows'.map rowD))) (hs:cB [.lst (shuts.map D.int),.int (h / 18)]=.ok (.lst (shuts'.map D.int)))
  (hf:dN [.lst (marks'.map aB),.lst (rows'.map rowD),.lst (shuts'.map D.int)]=.ok (tabD marks' rows' shuts' found)) :
  runS t33 (gf.body.getD 3 .pass) (envL ns h marks rows shuts pool sh none none none none none none none none none none)=.nx (envL ns h marks rows shuts pool sh none (tO marks' rows' shuts' found) none none none none none none none none) :=
 aR (fK (ag (aI (f:=26) (ag (a:=.var 2) (x:=.lst (marks.map aB)) rfl (ag (ar (a:=.var 1) (x:=.int h) rfl (b:=.int 2) (y:=.int 2) rfl (gc h 2 (by decide))) au)) hm)
  (ag (aI (f:=26) (ag (a:=.var 3) (x:=.lst (rows.map rowD)) rfl (ag (ar (a:=.var 1) (x:=.int h) rfl (b:=.int 6) (y:=.int 6) rfl (gc h 6 (by decide))) au)) hr)
  (ag (aI (f:=26) (ag (a:=.var 4) (x:=.lst (shuts.map D.int)) rfl (ag (ar (a:=.var 1) (x:=.int h) rfl (b:=.int 18) (y:=.int 18) rfl (gc h 18 (by decide))) au)) hs) au))) hf) rfl
theorem st4 {t1:O} (hm:cB [.lst (marks.map aB),.int (h / 54)]=.ok (.lst (marks2.map aB))) (hr:cB [.lst (shorts.map rowD),.int (h / 108)]=.ok (.lst (shorts2.map rowD)))
  (hf:dN [.lst (marks2.map aB),.lst (shorts2.map rowD),.lst (([]:List Int).map D.int)]=.ok (tabD marks2 shorts2 [] found2)) :
  runS t33 (gf.body.getD 4 .pass) (envL ns h marks rows shuts pool (some (.lst (shorts.map rowD),true)) none t1 none none none none none none none none)=.nx (envL ns h marks rows shuts pool (some (.lst (shorts.map rowD),true)) none t1 (tO marks2 shorts2 [] found2) none none none none none none none) :=
 aR (fK (ag (aI (f:=26) (ag (a:=.var 2) (x:=.lst (marks.map aB)) rfl (ag (ar (a:=.var 1) (x:=.int h) rfl (b:=.int 54) (y:=.int 54) rfl (gc h 54 (by decide))) au)) hm)
  (ag (aI (f:=26) (ag (a:=.var 6) (x:=.lst (shorts.map rowD)) rfl (ag (ar (a:=.var 1) (x:=.int h) rfl (b:=.int 108) (y:=.int 108) rfl (gc h 108 (by decide))) au)) hr)
  (ag (a:=.lst []) (x:=.lst []) rfl au))) hf) rfl
noncomputable abbrev dues (ms:List (Int × Int)) (rs ss:List (Int × List Int)) (c:List Int):List D:=[l3 ms rs c,l3 ms ss []]
theorem st5 {t1 t2:O} (b1:biD .sortT [.lst (marks.map aB)]=.ok (.lst (ms.map aB))) (b2:biD .sortT [.lst (rows.map rowD)]=.ok (.lst (rs.map rowD))) (b3:biD .sorted [.lst (shuts.map D.int)]=.ok (.lst ((sortI shuts).map D.int))) (b4:biD .sortT [.lst (shorts.map rowD)]=.ok (.lst (ss.map rowD))) :
  runS t33 (gf.body.getD 5 .pass) (envL ns h marks rows shuts pool (some (.lst (shorts.map rowD),true)) none t1 t2 none none none none none none none)=.nx (envL ns h marks rows shuts pool (some (.lst (shorts.map rowD),true)) none t1 t2 (some (.lst (dues ms rs ss (sortI shuts)),true)) none none none none none none):=by
 let ρ:Env:=envL ns h marks rows shuts pool (some (.lst (shorts.map rowD),true)) none t1 t2 none none none none none none none
 have f1:runE t33 (.bi .sortT [(.var 2)]) ρ=.ok (.lst (ms.map aB),.sto []):=by rw [← gA (immM ms)]; exact aD (x:=.lst (marks.map aB)) rfl b1
 have f2:runE t33 (.bi .sortT [(.var 3)]) ρ=.ok (.lst (rs.map rowD),.sto []):=by rw [← gA (immR rs)]; exact aD (x:=.lst (rows.map rowD)) rfl b2
 have f3:runE t33 (.bi .sorted [(.var 4)]) ρ=.ok (.lst ((sortI shuts).map D.int),.sto []):=by rw [← gA (dW (sortI shuts))]; exact aD (x:=.lst (shuts.map D.int)) rfl b3
 have f4:runE t33 (.bi .sortT [(.var 6)]) ρ=.ok (.lst (ss.map rowD),.sto []):=by rw [← gA (immR ss)]; exact aD (x:=.lst (shorts.map rowD)) rfl b4
 exact aR (fz (ag (fz (ag f1 (ag f2 (ag f3 au))) (show (3:Nat)≤1000000 by decide)) (ag (fz (ag f1 (ag f4 (ag (a:=.lst []) (x:=.lst []) (k:=.sto []) rfl au))) (show (3:Nat)≤1000000 by decide)) au)) (show (2:Nat)≤1000000 by decide)) rfl
end
end K13
namespace K13
open Vi K12 K11
open PySem (Str)
theorem fR {f:Env→D→Out} {d:D} {r:List D} {ρ ρ':Env} (h:f ρ d=.nx ρ'):forL f (d::r) ρ=forL f r ρ':=by
 show (match f ρ d with | .nx ρ'=>forL f r ρ' | .ct ρ'=>forL f r ρ' | .bk ρ'=>.nx ρ' | .rt x=>.rt x | .ex x=>.ex x | .bad=>.bad)=_
 rw [h]
theorem turn_of {tg:List Nat} {one:Bool} {f:Env→Out} {ρ ρ1:Env} {d:D} (h:bv ρ tg one d .old=some ρ1):bT tg one f ρ d=f ρ1:=by
 show (match bv ρ tg one d .old with | none=>Out.bad | some ρ1=>f ρ1)=_
 rw [h]
section
variable {ns:List Int} {h:Int} {marks ms:List (Int × Int)} {rows rs ss:List (Int × List Int)} {shuts pool c:List Int}
noncomputable abbrev B6:List S:=[.set 14 (.call 31 [(.var 12),(.var 11)]),.ifs (.or (.cmp .isN (.var 14) .non) (.cmp .ne (.var 14) (.var 13))) [.ret (.bl false)] [],.chg 14 (.bin .mod (.bin .fdiv (.var 1) (.int 4)) (.int 2))]
noncomputable abbrev envZ (ns:List Int) (h:Int) (marks:List (Int × Int)) (rows:List (Int × List Int)) (shuts pool:List Int) (sh T1 T2 du:D) (w:Int) (ak dd:O):Env :=
 envL ns h marks rows shuts pool (some (sh,true)) none (some (T1,false)) (some (T2,false)) (some (du,false)) (some (.int w,true)) ak dd none none none
theorem turn6 {sh T1 T2 du:D} {w:Int} {ak dd:O} {f:List (Str × D)} {r:List (Int × List Int)} {c:List Int} (ht:cM [.obj 0 f,.int w]=.ok (l3 ms r c)) (hm:ms.length < 1000) (hr:r.length < 1000) (hc:c.length < 1000) :
  bT [12,13] false (fun ρ1=>aA t33 B6 ρ1) (envZ ns h marks rows shuts pool sh T1 T2 du w ak dd) (.tup [.obj 0 f,l3 ms r c])=.nx (envZ ns h marks rows shuts pool sh T1 T2 du w (some (.obj 0 f,false)) (some (l3 ms r c,false))):=by
 have hb:bv (envZ ns h marks rows shuts pool sh T1 T2 du w ak dd) [12,13] false (.tup [.obj 0 f,l3 ms r c]) .old=some (envZ ns h marks rows shuts pool sh T1 T2 du w (some (.obj 0 f,false)) (some (l3 ms r c,false))):=rfl
 refine (turn_of hb).trans ?_
 let ρ1:Env:=envL ns h marks rows shuts pool (some (sh,true)) none (some (T1,false)) (some (T2,false)) (some (du,false)) (some (.int w,true)) (some (.obj 0 f,false)) (some (l3 ms r c,false)) (some (l3 ms r c,true)) none none
 have s0:runS t33 (.set 14 (.call 31 [(.var 12),(.var 11)])) (envZ ns h marks rows shuts pool sh T1 T2 du w (some (.obj 0 f,false)) (some (l3 ms r c,false)))=.nx ρ1 :=
  aR (aI (f:=31) (ag (x:=.obj 0 f) (k:=.old) rfl (ag (x:=.int w) (k:=.sto []) rfl au)) ht) rfl
 have s1:runS t33 (.ifs (.or (.cmp .isN (.var 14) .non) (.cmp .ne (.var 14) (.var 13))) [.ret (.bl false)] []) ρ1=.nx ρ1 :=
  (ba ((cO (az (x:=l3 ms r c) (k:=.sto [14]) rfl (y:=.non) rfl rfl)).trans (az (x:=l3 ms r c) (k:=.sto [14]) rfl (y:=l3 ms r c) (k':=.old) rfl (by rw [cmpD_2,eq_l3]; rfl)))).trans bo
 have s2:runS t33 (.chg 14 (.bin .mod (.bin .fdiv (.var 1) (.int 4)) (.int 2))) ρ1=.nx (envZ ns h marks rows shuts pool sh T1 T2 du w (some (.obj 0 f,false)) (some (l3 ms r c,false))):=by
  refine run_chg (ar (ar (a:=.var 1) (x:=.int h) rfl (b:=.int 4) (y:=.int 4) rfl (gc h 4 (by decide))) (b:=.int 2) (y:=.int 2) rfl (d5 (h / 4) 2)) rfl (flats3 (immM ms) (immR r) (dW c)) ⟨fun m hm'=>?_,show (3:Nat) < 1000 by decide⟩
  rcases List.mem_cons.mp hm' with e | hm'
  ·rw [e,List.length_map]; exact hm
  ·rcases List.mem_cons.mp hm' with e | hm'
   ·rw [e,List.length_map]; exact hr
   ·rw [List.mem_singleton.mp hm',List.length_map]; exact hc
 exact (ai s0).trans ((ai s1).trans (be s2))
theorem loop6 {sh:D} {f g:List (Str × D)} {w:Int} (h1:cM [.obj 0 f,.int w]=.ok (l3 ms rs c)) (h2:cM [.obj 0 g,.int w]=.ok (l3 ms ss [])) (hm:ms.length < 1000) (hr:rs.length < 1000) (hs:ss.length < 1000) (hc:c.length < 1000) :
  runS t33 (.for [12,13] false .zip [(.lst [(.var 8),(.var 9)]),(.var 10)] B6) (envL ns h marks rows shuts pool (some (sh,true)) none (some (.obj 0 f,true)) (some (.obj 0 g,true)) (some (.lst (dues ms rs ss c),true)) (some (.int w,true)) none none none none none) =
   .nx (envL ns h marks rows shuts pool (some (sh,true)) none (some (.obj 0 f,true)) (some (.obj 0 g,true)) (some (.lst (dues ms rs ss c),true)) (some (.int w,true)) none none none none none):=by
 have hI:runI t33 .zip [(.lst [(.var 8),(.var 9)]),(.var 10)] (envL ns h marks rows shuts pool (some (sh,true)) none (some (.obj 0 f,true)) (some (.obj 0 g,true)) (some (.lst (dues ms rs ss c),true)) (some (.int w,true)) none none none none none)=.ok ([.tup [.obj 0 f,l3 ms rs c],.tup [.obj 0 g,l3 ms ss []]],.sto [8,9,10]):=rfl
 rw [cV hI rfl]
 have el:aK (envL ns h marks rows shuts pool (some (sh,true)) none (some (.obj 0 f,true)) (some (.obj 0 g,true)) (some (.lst (dues ms rs ss c),true)) (some (.int w,true)) none none none none none) (.sto [8,9,10])=envZ ns h marks rows shuts pool sh (.obj 0 f) (.obj 0 g) (.lst (dues ms rs ss c)) w none none:=by kernel_rfl
 rw [el,fR (turn6 h1 hm hr hc),fR (turn6 h2 hm hs (show (0:Nat) < 1000 by decide))]
 kernel_rfl
noncomputable abbrev L6:S:=.for [12,13] false .zip [(.lst [(.var 8),(.var 9)]),(.var 10)] B6
theorem st6 {sh:D} {f g:List (Str × D)} (h1:∀ w,cM [.obj 0 f,.int w]=.ok (l3 ms rs c)) (h2:∀ w,cM [.obj 0 g,.int w]=.ok (l3 ms ss [])) (hm:ms.length < 1000) (hr:rs.length < 1000) (hs:ss.length < 1000) (hc:c.length < 1000) :
  runS t33 (gf.body.getD 6 .pass) (envL ns h marks rows shuts pool (some (sh,true)) none (some (.obj 0 f,true)) (some (.obj 0 g,true)) (some (.lst (dues ms rs ss c),true)) none none none none none none) =
   .nx (envL ns h marks rows shuts pool (some (sh,true)) none (some (.obj 0 f,true)) (some (.obj 0 g,true)) (some (.lst (dues ms rs ss c),true)) (some (.int (h % 2),true)) none none none none none):=by
 have turn:∀ (w:Int) (wy:O),bT [11] true (fun ρ1=>aA t33 [L6] ρ1) (envL ns h marks rows shuts pool (some (sh,true)) none (some (.obj 0 f,true)) (some (.obj 0 g,true)) (some (.lst (dues ms rs ss c),true)) wy none none none none none) (.int w)=.nx (envL ns h marks rows shuts pool (some (sh,true)) none (some (.obj 0 f,true)) (some (.obj 0 g,true)) (some (.lst (dues ms rs ss c),true)) (some (.int w,true)) none none none none none):=fun w wy =>
  (turn_of (show bv (envL ns h marks rows shuts pool (some (sh,true)) none (some (.obj 0 f,true)) (some (.obj 0 g,true)) (some (.lst (dues ms rs ss c),true)) wy none none none none none) [11] true (.int w) .old=some (envL ns h marks rows shuts pool (some (sh,true)) none (some (.obj 0 f,true)) (some (.obj 0 g,true)) (some (.lst (dues ms rs ss c),true)) (some (.int w,true)) none none none none none) from rfl)).trans (be (loop6 (h1 w) (h2 w) hm hr hs hc))
 have hI:runI t33 .each [(.lst [(.int 0),(.int 1),(.bin .mod (.var 1) (.int 2))])] (envL ns h marks rows shuts pool (some (sh,true)) none (some (.obj 0 f,true)) (some (.obj 0 g,true)) (some (.lst (dues ms rs ss c),true)) none none none none none none)=.ok ([.int 0,.int 1,.int (h % 2)],.sto []) :=
  gH (fz (ag (a:=.int 0) (x:=.int 0) (k:=.sto []) rfl (ag (a:=.int 1) (x:=.int 1) (k:=.sto []) rfl (ag (ar (a:=.var 1) (x:=.int h) (k:=.sto []) rfl (b:=.int 2) (y:=.int 2) (k':=.sto []) rfl (d5 h 2)) au))) (show (3:Nat)≤1000000 by decide)) rfl
 show runS t33 (.for [11] true .each [(.lst [(.int 0),(.int 1),(.bin .mod (.var 1) (.int 2))])] [L6]) _=_
 rw [cV hI rfl]
 have el:aK (envL ns h marks rows shuts pool (some (sh,true)) none (some (.obj 0 f,true)) (some (.obj 0 g,true)) (some (.lst (dues ms rs ss c),true)) none none none none none none) (.sto [])=envL ns h marks rows shuts pool (some (sh,true)) none (some (.obj 0 f,true)) (some (.obj 0 g,true)) (some (.lst (dues ms rs ss c),true)) none none none none none none:=by kernel_rfl
 rw [el,fR (turn 0 none),fR (turn 1 _),fR (turn (h % 2) _)]
 kernel_rfl
end
end K13
namespace K13
open Vi K12 K11
open PySem (Str)
theorem m_pair {a b c d : D} : (flds a b c d).lookup ("pair" : Str) = none := lkN (by decide +kernel)
theorem eq_int (i:Int):cmpD .eq (.int i) (.int i)=.ok true:=by
 show R.ok (i == i)=_
 rw [beq_self_eq_true]
theorem two_of {r:List Int} (h:r.length=2):∃ u v,r=[u,v]:=by
 rcases r with _ | ⟨u,_ | ⟨v,_ | ⟨z,t⟩⟩⟩
 ·injection h
 ·injection h with h; injection h
 ·exact ⟨u,v,rfl⟩
 ·exact absurd (Nat.succ.inj (Nat.succ.inj h)) (Nat.succ_ne_zero _)
theorem nmem_int (x:Int) (l:List Int):cmpD .nmem (.int x) (.lst (l.map D.int))=.ok (!decide (x∈l)):=by
 show (match memL (.int x) (l.map D.int) with | some k=>R.ok (!k) | none=>.bad)=_
 rw [memL_il,gj]
section
variable {ns:List Int} {h:Int} {marks marks' ms:List (Int × Int)} {rows rows' rs:List (Int × List Int)} {shuts shuts' pool:List Int} {found:List (List Key × D)}
noncomputable abbrev oi' (w:Option Int):O:=w.map fun i=>(.int i,true)
noncomputable abbrev ot' (u:Option (List Int)):O:=u.map fun r=>(.tup (r.map D.int),true)
noncomputable abbrev B7 : List S := [.ifs (.or (.cmp .ne (.meth 21 "row" (.var 8) [(.var 15)]) (.var 7)) (.and (.cmp .eq (.bi .len [(.var 7)]) (.int 2)) (.and (.cmp .nmem (.var 15) (.var 4)) (.cmp .ne (.meth 7 "pair" (.var 8) [(.ix (.var 7) (.int 0)), (.ix (.var 7) (.int 1))]) (.var 15))))) [.ret (.bl false)] []]
noncomputable abbrev envY (ns:List Int) (h:Int) (marks:List (Int × Int)) (rows:List (Int × List Int)) (shuts pool:List Int) (b:Bool) (sh T1 T2 du:D) (wy:Int) (w:Option Int) (u:Option (List Int)):Env :=
 [some (.lst (ns.map D.int),false),some (.int h,true),some (.lst (marks.map aB),true),some (.lst (rows.map rowD),b),some (.lst (shuts.map D.int),true),some (.lst (pool.map D.int),true),some (sh,true),ot' u,some (T1,true),some (T2,true),some (du,true),some (.int wy,true),none,none,none,oi' w,none]
theorem check7 (T:bf marks rows shuts) (pr:rows'.Perm rows) (ps:shuts'.Perm shuts) {P:Int→Prop} (F:bJ rows' shuts' P found) (hP:∀ s r,(s,r)∈rows'→P s) {b:Bool} {sh T2 du:D} {wy:Int} {x:Int} {r:List Int} (hx:(x,r)∈rows) :
  runE t33 (.or (.cmp .ne (.meth 21 "row" (.var 8) [(.var 15)]) (.var 7)) (.and (.cmp .eq (.bi .len [(.var 7)]) (.int 2)) (.and (.cmp .nmem (.var 15) (.var 4)) (.cmp .ne (.meth 7 "pair" (.var 8) [(.ix (.var 7) (.int 0)), (.ix (.var 7) (.int 1))]) (.var 15))))) (envY ns h marks rows shuts pool b sh (tabD marks' rows' shuts' found) T2 du wy (some x) (some r)) = .ok (.bl false, .sto []) := by
 let ρ:Env:=envY ns h marks rows shuts pool b sh (tabD marks' rows' shuts' found) T2 du wy (some x) (some r)
 have hw:=trow_eq (marks:=marks') (rows:=rows') (shuts:=shuts') (found:=found) x
 rw [valD_perm (pr.map rowK).symm.symm ((key_rk ((pr.map (·.1)).nodup_iff.mpr T.nr))),bf.val T hx] at hw
 have v8:runE t33 (.var 8) ρ=.ok (tabD marks' rows' shuts' found,.sto [8]):=rfl
 have v15:runE t33 (.var 15) ρ=.ok (.int x,.sto []):=rfl
 have v7:runE t33 (.var 7) ρ=.ok (.tup (r.map D.int),.sto []):=cg (eG rfl (cI r))
 have e1 : runE t33 (.meth 21 "row" (.var 8) [(.var 15)]) ρ = .ok (.tup (r.map D.int), .sto []) := eR v8 (ag v15 au) m_row hw
 have c1 : runE t33 (.cmp .ne (.meth 21 "row" (.var 8) [(.var 15)]) (.var 7)) ρ = .ok (.bl false, .sto []) := az e1 v7 (by rw [cmpD_2, eqD_tup, decide_eq_true rfl]; rfl)
 have cl:runE t33 (.cmp .eq (.bi .len [(.var 7)]) (.int 2)) ρ=.ok (.bl (((r.map D.int).length:Int) == 2),.sto []):=az (aD v7 (z:=.int (r.map D.int).length) rfl) (y:=.int 2) rfl rfl
 refine (cO c1).trans ?_
 cases q:(((r.map D.int).length:Int) == 2) with
 | false=>rw [q] at cl; exact ck cl
 | true =>
  rw [q] at cl
  refine (bc cl).trans ?_
  have l2:r.length=2:=by
   have:=of_decide_eq_true (by simpa using q:decide (((r.map D.int).length:Int)=2)=true)
   rw [List.length_map] at this
   exact Int.ofNat.inj this
  have cm:runE t33 (.cmp .nmem (.var 15) (.var 4)) ρ=.ok (.bl (!decide (x∈shuts)),.sto []):=az v15 (y:=.lst (shuts.map D.int)) (k':=.sto [4]) rfl (nmem_int x shuts)
  by_cases hs:x∈shuts
  ·rw [decide_eq_true hs] at cm; exact ck cm
  ·rw [decide_eq_false hs] at cm
   refine (bc cm).trans ?_
   obtain ⟨u,v,e⟩:=two_of l2
   subst e
   have hx':=pr.mem_iff.mpr hx
   have hv:=F.full x [u,v] (hP _ _ hx') hx' l2 (fun z=>hs (ps.mem_iff.mp z))
   have hp:=pair_eq (marks:=marks') (rows:=rows') (shuts:=shuts') found (found_val F) u v
   rw [show valD found [Sum.inl u,Sum.inl v]=some (.int x) from hv] at hp
   have i0:runE t33 (.ix (.var 7) (.int 0)) ρ=.ok (.int u,.sto []):=rfl
   have i1:runE t33 (.ix (.var 7) (.int 1)) ρ=.ok (.int v,.sto []):=rfl
   exact az (eR v8 (ag i0 (ag i1 au)) m_pair hp) v15 (ne_int x)
theorem st7 (T:bf marks rows shuts) (pr:rows'.Perm rows) (ps:shuts'.Perm shuts) {P:Int→Prop} (F:bJ rows' shuts' P found) (hP:∀ s r,(s,r)∈rows'→P s) {sh T2 du:D} {wy:Int} :
  ∃ w u,runS t33 (gf.body.getD 7 .pass) (envL ns h marks rows shuts pool (some (sh,true)) none (tO marks' rows' shuts' found) (some (T2,true)) (some (du,true)) (some (.int wy,true)) none none none none none)=.nx (envY ns h marks rows shuts pool true sh (tabD marks' rows' shuts' found) T2 du wy w u):=by
 have turn:∀ (m:Int × List Int) (w:Option Int) (u:Option (List Int)),m∈rows→bT [15,7] false (fun ρ1=>aA t33 B7 ρ1) (envY ns h marks rows shuts pool false sh (tabD marks' rows' shuts' found) T2 du wy w u) (rowD m)=.nx (envY ns h marks rows shuts pool false sh (tabD marks' rows' shuts' found) T2 du wy (some m.1) (some m.2)):=fun m w u hm =>
  (turn_of (show bv (envY ns h marks rows shuts pool false sh (tabD marks' rows' shuts' found) T2 du wy w u) [15,7] false (rowD m) .old=some (envY ns h marks rows shuts pool false sh (tabD marks' rows' shuts' found) T2 du wy (some m.1) (some m.2)) from bind2 (dP m))).trans (be ((ba (check7 T pr ps F hP hm)).trans bo))
 refine zz fun P_ k_=>?_
 obtain ⟨ρ',e,w,u,q⟩:=cP (f:=bT [15,7] false fun ρ1=>aA t33 B7 ρ1) (fun _ ρ=>∃ w u,ρ=envY ns h marks rows shuts pool false sh (tabD marks' rows' shuts' found) T2 du wy w u) rowD rows [] (envY ns h marks rows shuts pool false sh (tabD marks' rows' shuts' found) T2 du wy none none) ⟨none,none,rfl⟩
  (fun p x q ρ e h=>by
   obtain ⟨w,u,h⟩:=h
   rw [h]
   have hx:x∈rows:=by rw [List.nil_append] at e; rw [e]; exact List.mem_append_right _ List.mem_cons_self
   exact ⟨_,turn x w u hx,some x.1,some x.2,rfl⟩)
 refine k_ ?_
 refine ⟨w,u, ?_⟩
 have hI:runI t33 .each [.var 3] (envL ns h marks rows shuts pool (some (sh,true)) none (tO marks' rows' shuts' found) (some (T2,true)) (some (du,true)) (some (.int wy,true)) none none none none none)=.ok (rows.map rowD,.sto [3]):=rfl
 show runS t33 (.for [15,7] false .each [(.var 3)] B7) _=_
 rw [cV hI rfl]
 have el:aK (envL ns h marks rows shuts pool (some (sh,true)) none (tO marks' rows' shuts' found) (some (T2,true)) (some (du,true)) (some (.int wy,true)) none none none none none) (.sto [3])=envY ns h marks rows shuts pool false sh (tabD marks' rows' shuts' found) T2 du wy none none:=by kernel_rfl
 rw [el,e,q]
 cases w <;> cases u <;> kernel_rfl
theorem st8 (T:bf marks rows shuts) (pm:marks'.Perm marks) {sh T2 du:D} {wy:Int} {w:Option Int} {u:Option (List Int)} :
  runS t33 (gf.body.getD 8 .pass) (envY ns h marks rows shuts pool true sh (tabD marks' rows' shuts' found) T2 du wy w u)=.nx (envY ns h marks rows shuts pool true sh (tabD marks' rows' shuts' found) T2 du wy w u):=by
 refine (ba (k:=.sto []) (dr (t:=true) (k:=.sto []) ?_)).trans bo
 have hI:runI t33 .each [.var 2] (envY ns h marks rows shuts pool true sh (tabD marks' rows' shuts' found) T2 du wy w u)=.ok (marks.map aB,.sto [2]):=rfl
 refine aD (z:=.bl true) (cj (b:=true) hI (by rw [List.length_map]; exact Nat.le_trans (Nat.le_trans (Nat.le_add_right _ _) T.few) (by decide)) (cr aB (fun _=>.bl true) marks fun m hm=>?_)) (kq marks)
 have hb:bv (inComp (envY ns h marks rows shuts pool true sh (tabD marks' rows' shuts' found) T2 du wy w u) [15,16]) [15,16] false (aB m) .old=some (((inComp (envY ns h marks rows shuts pool true sh (tabD marks' rows' shuts' found) T2 du wy w u) [15,16]).set 15 (some (.int m.1,true))).set 16 (some (.int m.2,true))):=bind2 (j3 m)
 have hr:=trank_eq (marks:=marks') (rows:=rows') (shuts:=shuts') (found:=found) m.1
 have hv:valD (marks.map cY) (Sum.inl m.1:Key)=some (.int m.2):=valD_keys (fun m:Int × Int=>(Sum.inl m.1:Key)) (fun m=>.int m.2) (by have:=cW T.nm; rwa [List.map_map] at this) hm
 rw [valD_perm (pm.map cY) (key_mk ((pm.map (·.1)).nodup_iff.mpr T.nm)),hv] at hr
 refine cR hb rfl (az (eR (k:=.old) (fs:=flds (.dK (marks'.map cY)) (.dK (rows'.map rowK)) (.dK (shuts'.map dq)) (.dT found)) ?_ (ag (x:=.int m.1) (k:=.sto []) ?_ au) m_rank hr) (y:=.int m.2) (k':=.sto []) ?_ (eq_int m.2))
 ·cases u <;> rfl
 ·cases u <;> rfl
 ·cases u <;> rfl
end
end K13
namespace K13
open Vi K12 K11
open PySem (Str)
section
variable {ns:List Int} {h:Int} {marks marks' ms:List (Int × Int)} {rows rows' rs ss:List (Int × List Int)} {shuts shuts' pool c:List Int} {found:List (List Key × D)}
noncomputable abbrev envX (ns:List Int) (h:Int) (marks:List (Int × Int)) (rows:List (Int × List Int)) (shuts pool:List Int) (sh T1 T2 du:D) (wy:Int) (w:Option Int) (u:Option (List Int)) (tl:D):Env :=
 [some (.lst (ns.map D.int),false),some (.int h,true),some (.lst (marks.map aB),true),some (.lst (rows.map rowD),true),some (.lst (shuts.map D.int),true),some (.lst (pool.map D.int),true),some (sh,true),ot' u,some (T1,true),some (T2,true),some (du,true),some (.int wy,true),none,none,some (tl,true),oi' w,none]
theorem st9 {f:List (Str × D)} {sh T2 du:D} {wy:Int} {w:Option Int} {u:Option (List Int)} (ht:cM [.obj 0 f,.int 0]=.ok (l3 ms rs c)) :
  runS t33 (gf.body.getD 9 .pass) (envY ns h marks rows shuts pool true sh (.obj 0 f) T2 du wy w u)=.nx (envX ns h marks rows shuts pool sh (.obj 0 f) T2 du wy w u (l3 ms rs c)) :=
 aR (aI (f:=31) (ag (a:=.var 8) (x:=.obj 0 f) (k:=.sto [8]) rfl (ag (a:=.int 0) (x:=.int 0) (k:=.sto []) rfl au)) ht) (by kernel_rfl)
theorem st10 {T3 sh T1 T2:D} {wy:Int} {w:Option Int} {u:Option (List Int)} (hf:dN [.lst (ms.map aB),.lst (rs.map rowD),.lst (c.map D.int)]=.ok T3) (ht:cM [T3,.int 1]=.ok (l3 ms rs c)) :
  runE t33 (.and (.cmp .notN (.var 14) .non) (.cmp .eq (.call 31 [(.make 0 [(.ix (.var 14) (.int 0)),(.ix (.var 14) (.int 1)),(.ix (.var 14) (.int 2))]),(.int 1)]) (.ix (.var 10) (.int 0)))) (envX ns h marks rows shuts pool sh T1 T2 (.lst (dues ms rs ss c)) wy w u (l3 ms rs c))=.ok (.bl true,.sto []):=by
 refine (bc (az (x:=l3 ms rs c) (k:=.sto [14]) rfl (y:=.non) rfl rfl)).trans ?_
 refine az (aI (f:=31) (ag (fK (ag (x:=.lst (ms.map aB)) (k:=.bor) rfl (ag (x:=.lst (rs.map rowD)) (k:=.bor) rfl (ag (x:=.lst (c.map D.int)) (k:=.bor) rfl au))) hf) (ag (a:=.int 1) (x:=.int 1) (k:=.sto []) rfl au)) ht) (y:=l3 ms rs c) (k':=.bor) rfl ?_
 rw [cmpD_1,eq_l3]
end
theorem law_true (ns:List Int):r_law [.lst (ns.map D.int)]=.ok (.bl true):=by
 refine zz fun P_ k_=>?_
 obtain ⟨h,hh⟩:=cell_at0 ns
 obtain ⟨pool,marks,rows,shuts,sizes,sz,idx,ht,G,hp⟩:=l_table_ok (cutD ns (some 1) (some 63)) (cut_few ns)
 have T:=G.tab (Nat.le_trans hp (by decide))
 have lm:marks.length≤60:=Nat.le_trans (Nat.le_add_right _ _) T.few
 have TS:=bf.shorts T one fun r=>one_len
 obtain ⟨marks',hm,pm⟩:=d7 aB immM marks (h / 2) (Nat.le_trans lm (by decide))
 obtain ⟨rows',hr,pr⟩:=d7 rowD immR rows (h / 6) (Nat.le_trans T.lr (by decide))
 obtain ⟨shuts',hs,ps⟩:=d7 D.int dW shuts (h / 18) (Nat.le_trans T.fewS (by decide))
 obtain ⟨marks2,hm2,pm2⟩:=d7 aB immM marks (h / 54) (Nat.le_trans lm (by decide))
 obtain ⟨shorts2,hr2,pr2⟩:=d7 rowD immR (rows.filter one) (h / 108) (Nat.le_trans TS.lr (by decide))
 obtain ⟨ms,em,qm⟩:=gY aB marks
 obtain ⟨rs,er,qr⟩:=gY rowD rows
 obtain ⟨ss,es,qs⟩:=gY rowD (rows.filter one)
 have qc:=cS shuts
 obtain ⟨found,hf,F⟩:=jB (bf.perm T pm pr ps)
 obtain ⟨found2,hf2,_⟩:=jB (bf.perm TS pm2 pr2 (List.Perm.refl []))
 obtain ⟨found3,hf3,_⟩:=jB (bf.perm T qm qr qc)
 have d1:∀ w,cM [tabD marks' rows' shuts' found,.int w]=.ok (l3 ms rs (sortI shuts)):=jA T pm pr ps em er qr
 have d2:∀ w,cM [tabD marks2 shorts2 [] found2,.int w]=.ok (l3 ms ss []):=fun w=>by
  have q:=jA (found:=found2) TS pm2 pr2 (List.Perm.refl []) em es qs w
  rw [show sortI []=[] from List.eq_nil_of_length_eq_zero (cS []).length_eq] at q
  exact q
 have d3:∀ w,cM [tabD ms rs (sortI shuts) found3,.int w]=.ok (l3 ms rs (sortI shuts)):=jA T qm qr qc em er qr
 have s0:runS t33 (gf.body.getD 0 .pass) (some (.lst (ns.map D.int),false)::List.replicate 16 none)=.nx (some (.lst (ns.map D.int),false)::some (.int h,true)::List.replicate 15 none) :=
  aR (aI (f:=8) (ag (a:=.var 0) (x:=.lst (ns.map D.int)) rfl (ag (a:=.int 0) (x:=.int 0) rfl au)) hh) rfl
 have a1:runE t33 (.sl (.var 0) (.int 1) (.int 63)) (some (.lst (ns.map D.int),false)::some (.int h,true)::List.replicate 15 none)=.ok (.lst ((cutD ns (some 1) (some 63)).map D.int),.sto []):=by
  have:slD (.lst (ns.map D.int)) (some (some 1)) (some (some 63))=.ok (.lst ((cutD ns (some 1) (some 63)).map D.int),.sto []):=by rw [slD_1,if_pos (dW _),cut_map]
  rw [← this,rE_sl]
  rfl
 have s1:runS t33 (gf.body.getD 1 .pass) (some (.lst (ns.map D.int),false)::some (.int h,true)::List.replicate 15 none)=.nx (envL ns h marks rows shuts pool none none none none none none none none none none none):=by
  have e:=aI (M:=t33) (f:=13) (ag a1 au) ht
  show runS t33 (.unp [2,3,4,5] _) _=_
  rw [rS_unp,e]
  rfl
 have b1:biD .sortT [.lst (marks.map aB)]=.ok (.lst (ms.map aB)):=by rw [biD_21,if_pos (tupsM T.nm lm),em]
 have b2:biD .sortT [.lst (rows.map rowD)]=.ok (.lst (rs.map rowD)):=by rw [biD_21,if_pos (tupsR T.nr T.lr),er]
 have b3:biD .sorted [.lst (shuts.map D.int)]=.ok (.lst ((sortI shuts).map D.int)):=by
  show (match iR (shuts.map D.int) with | some m=>R.ok (D.lst m) | none=>.bad)=_
  rw [gX _ (Nat.lt_of_le_of_lt T.fewS (by decide))]
 have b4:biD .sortT [.lst ((rows.filter one).map rowD)]=.ok (.lst (ss.map rowD)):=by rw [biD_21,if_pos (tupsR TS.nr TS.lr),es]
 obtain ⟨w,u,s7⟩:=st7 (ns:=ns) (h:=h) (pool:=pool) (marks:=marks) (marks':=marks') T pr ps F (fun s r hsr=>eP.mpr (List.mem_map.mpr ⟨(s,r),hsr,rfl⟩)) (sh:=.lst ((rows.filter one).map rowD)) (T2:=tabD marks2 shorts2 [] found2) (du:=.lst (dues ms rs ss (sortI shuts))) (wy:=h % 2)
 refine k_ ?_
 have lt:∀ {α:Type} {a b:List α},a.Perm b→b.length≤60→a.length < 1000:=fun p hb=>Nat.lt_of_le_of_lt (p.length_eq ▸ hb) (by decide)
 refine d6 rfl (by decide) ?_
 exact (ai s0).trans ((ai s1).trans ((ai (st2 T.lr)).trans ((ai (st3 hm hr hs hf)).trans ((ai (st4 hm2 hr2 hf2)).trans ((ai (st5 b1 b2 b3 b4)).trans ((ai (st6 d1 d2 (lt qm lm) (lt qr T.lr) (lt qs TS.lr) (lt qc T.fewS))).trans ((ai s7).trans ((ai (st8 T pm)).trans ((ai (st9 (d1 0))).trans (ft (is:=[]) (st10 hf3 (d3 1))))))))))))
end K13
namespace K13
open PySem PySem.Spec PyProof.Rows L2 Vi K12 K11
open PySem (Str)
noncomputable def top (i:Nat):Stmt:=PySem.Challenge.pw_signforms_k13_lists_told.main.body.getD i (.Pass ⟨0,0,0,0⟩)
theorem dZ : bootBuiltins "len" = some (.builtin "len") := by decide +kernel
theorem bG : bootBuiltins "sorted" = some (.builtin "sorted") := by decide +kernel
theorem bt_sum : bootBuiltins "sum" = some (.builtin "sum") := by decide +kernel
theorem bt_any : bootBuiltins "any" = some (.builtin "any") := by decide +kernel
theorem bt_all : bootBuiltins "all" = some (.builtin "all") := by decide +kernel
theorem bt_list : bootBuiltins "list" = some (.type "list") := by decide +kernel
theorem ka : bootBuiltins "tuple" = some (.type "tuple") := by decide +kernel
theorem bt_dict : bootBuiltins "dict" = some (.type "dict") := by decide +kernel
theorem bS : bootBuiltins "isinstance" = some (.builtin "isinstance") := by decide +kernel
theorem bt_int : bootBuiltins "int" = some (.type "int") := by decide +kernel
theorem bt_bool : bootBuiltins "bool" = some (.type "bool") := by decide +kernel
theorem bt_zip : bootBuiltins "zip" = some (.type "zip") := by decide +kernel
structure Txt (K:PySem.W.Frag) (mg:Str→Option Value) (C:Addr) (tk:Tok):Prop where
 cl:Cls K C
 n_rank_by_sign : d4 K C "rank_by_sign"
 n_row_by_sign : d4 K C "row_by_sign"
 n_shut_by_sign : d4 K C "shut_by_sign"
 n_sign_by_pair : d4 K C "sign_by_pair"
 mlen : mg "len" = none
 msorted : mg "sorted" = none
 msum : mg "sum" = none
 many : mg "any" = none
 mall : mg "all" = none
 mlist : mg "list" = none
 mtuple : mg "tuple" = none
 mdict : mg "dict" = none
 misinstance : mg "isinstance" = none
 mint : mg "int" = none
 mbool : mg "bool" = none
 mrange : mg "range" = none
 mzip : mg "zip" = none
 mLONGEST : mg "LONGEST" = some (.int 16 tk)
section
variable {P:Program} {w:World} {K:PySem.W.Frag} {mg:Str→Option Value} {base:Heap} {C:Addr} {tk:Tok}
noncomputable abbrev bg:Stmt:=top 11
theorem dL : aJ ["signs", "seen", "again", "sign"] ["signs"] (ab bg) := ⟨rfl, rfl, rfl, by decide +kernel, rfl, by decide +kernel, by decide +kernel⟩
theorem ok_repeated {f : Addr} {fd : FuncData} (Fu : Fun K "repeated" "repeated" bg f fd) (T : Txt K mg C tk) : FnOk P w K mg base CX0 1 f fd ["signs"] (spP (fun _ => C) dD) :=
 cZ (cl:=fun _=>C) (M:=t0) (fn:=gd) (kk:=0) Fu dL rfl rfl (fun cdv A outer s H E hr ρ=>(show GSs (cxOf CX0 P w K mg base _ _ (ab bg) f cdv A outer s H E).nox (fun _=>C) t0 (af bg) gd.body from
 (aa (aT (i:=1) dL.nd rfl (Or.inl rfl) rfl (Or.inl rfl) g_dnew)
 (aa (aT (i:=2) dL.nd rfl (Or.inl rfl) rfl (Or.inl rfl) (dw ah))
 (aa (eE PassesOwn.never rfl (fun _=>rfl) (bt (ad (i:=0) rfl (Or.inl rfl) rfl rfl)) (aH (i:=3) dL.nd rfl (Or.inl rfl)) bd (aa (cJ (bm (o:=.mem) (hu8 hr) rfl (ad (i:=3) rfl (Or.inl rfl) rfl rfl) (ad (i:=1) rfl (Or.inl rfl) rfl rfl)) (aa (iA (fun h=>cv (pe_bm PySem.F.plainAttrs_list PySem.F.slot_list_append PySem.F.type_list_append cn (cD (i:=2) rfl (Or.inl rfl)) (bI h de))) (ad (i:=3) rfl (Or.inl rfl) rfl rfl))
 ae) ae)
 (aa (gs_put (i:=1) (Nat.lt_of_le_of_lt (Nat.add_le_add_left (by decide) _) (hu8 hr)) rfl (Or.inl rfl) rfl rfl rfl (ad (i:=3) rfl (Or.inl rfl) rfl rfl) g_bl)
 ae)))
 (aa (bu (ad (i:=2) rfl (Or.inl rfl) rfl rfl))
 ae))))) ρ)
noncomputable abbrev ax:Stmt:=top 12
theorem bQ : aJ ["marks", "rows", "shuts", "told", "mark", "row", "again"] ["marks", "rows", "shuts"] (ab ax) := ⟨rfl, rfl, rfl, by decide +kernel, rfl, by decide +kernel, by decide +kernel⟩
theorem ie {f : Addr} {fd : FuncData} (Fu : Fun K "refuse_twice" "refuse_twice" ax f fd) (T : Txt K mg C tk) (L_repeated : Lnk P w K mg base (fun _ => C) "repeated" 1 ["signs"] dD) : FnOk P w K mg base CX0 2 f fd ["marks", "rows", "shuts"] (spP (fun _ => C) bU) :=
 cZ (cl:=fun _=>C) (M:=t1) (fn:=cC) (kk:=1) Fu bQ rfl rfl (fun cdv A outer s H E hr ρ=>(show GSs (cxOf CX0 P w K mg base _ _ (ab ax) f cdv A outer s H E).nox (fun _=>C) t1 (af ax) cC.body from
 (aa (aT (i:=3) bQ.nd rfl (Or.inl rfl) rfl (Or.inl rfl) (aU (op:=.add) (fj rfl (bF rfl (by kernel_rfl)) (dX (by kernel_rfl)) (fun _=>rfl) (bt (ad (i:=0) rfl (Or.inl rfl) rfl rfl)) (fun X0 hX0=>by obtain ⟨C0,fp0,pins0,s0,H0,rfl⟩:=hX0; exact (aH (i:=4) bQ.nd rfl (Or.inl rfl))) bd (Or.inl ⟨rfl,rfl⟩) (fun X0 hX0=>by obtain ⟨C0,fp0,pins0,s0,H0,rfl⟩:=hX0; exact (g_ix (fun _ _=>rfl) (ad (i:=4) rfl (Or.inl rfl) rfl rfl) ap))) (fj rfl (bF rfl (by kernel_rfl)) (dX (by kernel_rfl)) (fun _=>rfl) (bt (ad (i:=1) rfl (Or.inl rfl) rfl rfl)) (fun X0 hX0=>by obtain ⟨C0,fp0,pins0,s0,H0,rfl⟩:=hX0; exact (aH (i:=5) bQ.nd rfl (Or.inl rfl))) bd (Or.inl ⟨rfl,rfl⟩) (fun X0 hX0=>by obtain ⟨C0,fp0,pins0,s0,H0,rfl⟩:=hX0; exact (g_ix (fun _ _=>rfl) (ad (i:=5) rfl (Or.inl rfl) rfl rfl) ap)))))
 (aa (aT (i:=6) bQ.nd rfl (Or.inl rfl) rfl (Or.inl rfl) (aU (op:=.add) (aY L_repeated hr (by decide) rfl rfl rfl rfl (ac rfl (ad (i:=3) rfl (Or.inl rfl) rfl rfl) ah)) (aY L_repeated hr (by decide) rfl rfl rfl rfl (ac rfl (ad (i:=2) rfl (Or.inl rfl) rfl rfl) ah))))
 (aa (cJ (bK (ad (i:=6) rfl (Or.inl rfl) rfl rfl) (fun _=>rfl)) eD ae)
 ae)))) ρ)
noncomputable abbrev av:Stmt:=top 13
theorem dB : aJ ["row_by_sign", "shuts", "sign"] ["row_by_sign", "shuts"] (ab av) := ⟨rfl, rfl, rfl, by decide +kernel, rfl, by decide +kernel, by decide +kernel⟩
theorem fY {f : Addr} {fd : FuncData} (Fu : Fun K "refuse_no_pair" "refuse_no_pair" av f fd) (T : Txt K mg C tk) : FnOk P w K mg base CX0 1 f fd ["row_by_sign", "shuts"] (spP (fun _ => C) bD) :=
 cZ (cl:=fun _=>C) (M:=t0) (fn:=cL) (kk:=0) Fu dB rfl rfl (fun cdv A outer s H E hr ρ=>(show GSs (cxOf CX0 P w K mg base _ _ (ab av) f cdv A outer s H E).nox (fun _=>C) t0 (af av) cL.body from
 (aa (eE PassesOwn.never rfl (fun _ => rfl) (bt (cp (id := "sorted") (fun ds z h => dI rfl h) rfl T.msorted bG (by decide +kernel) rfl rfl rfl (ac rfl (ad (i := 1) rfl (Or.inl rfl) rfl rfl) ah))) (aH (i := 2) dB.nd rfl (Or.inl rfl)) bd (aa (cJ (bm (o := .ne) (hu8 hr) rfl (cp (id := "len") (fun ds z h => d0 h) rfl T.mlen dZ (by decide +kernel) rfl rfl rfl (ac rfl (g_get2 (Nat.lt_of_le_of_lt (Nat.add_le_add_left (by decide) _) (hu8 hr)) ⟨rfl, rfl, rfl, rfl⟩ (ad (i := 0) rfl (Or.inl rfl) rfl rfl) (ad (i := 2) rfl (Or.inl rfl) rfl rfl) (iC ah)) ah)) ap) eD ae)
 ae))
 ae)) ρ)
noncomputable abbrev aw:Stmt:=top 14
theorem bC : aJ ["row_by_sign", "shut_by_sign", "found", "twins", "sign", "row", "least"] ["row_by_sign", "shut_by_sign"] (ab aw) := ⟨rfl, rfl, rfl, by decide +kernel, rfl, by decide +kernel, by decide +kernel⟩
theorem gw {f : Addr} {fd : FuncData} (Fu : Fun K "signs_by_pair" "signs_by_pair" aw f fd) (T : Txt K mg C tk) : FnOk P w K mg base CX0 1 f fd ["row_by_sign", "shut_by_sign"] (spP (fun _ => C) bR) :=
 cZ (cl:=fun _=>C) (M:=t0) (fn:=cq) (kk:=0) Fu bC rfl rfl (fun cdv A outer s H E hr ρ=>(show GSs (cxOf CX0 P w K mg base _ _ (ab aw) f cdv A outer s H E).nox (fun _=>C) t0 (af aw) cq.body from
 (aa (aT (i:=2) bC.nd rfl (Or.inl rfl) rfl (Or.inl rfl) g_dnew)
 (aa (aT (i:=3) bC.nd rfl (Or.inl rfl) rfl (Or.inl rfl) (dw ah))
 (aa (eE PassesOwn.never rfl (fun _ => rfl) (bt (cp (id := "sorted") (fun ds z h => dI rfl h) rfl T.msorted bG (by decide +kernel) rfl rfl rfl (ac rfl (ad (i := 0) rfl (Or.inl rfl) rfl rfl) ah))) (aH (i := 4) bC.nd rfl (Or.inl rfl)) bd (aa (aT (i := 5) bC.nd rfl (Or.inl rfl) rfl (Or.inl rfl) (g_dix (Nat.lt_of_le_of_lt (Nat.add_le_add_left (by decide) _) (hu8 hr)) (fun _ _ => rfl) (ad (i := 0) rfl (Or.inl rfl) rfl rfl) (ad (i := 4) rfl (Or.inl rfl) rfl rfl)))
 (aa (cJ (fQ (gp (bm (o := .eq) (hu8 hr) rfl (cp (id := "len") (fun ds z h => d0 h) rfl T.mlen dZ (by decide +kernel) rfl rfl rfl (ac rfl (ad (i := 5) rfl (Or.inl rfl) rfl rfl) ah)) ap) (fD (bm (o := .nmem) (hu8 hr) rfl (ad (i := 4) rfl (Or.inl rfl) rfl rfl) (ad (i := 1) rfl (Or.inl rfl) rfl rfl))))) (aa (cJ (bm (o := .mem) (hu8 hr) rfl (ad (i := 5) rfl (Or.inl rfl) rfl rfl) (ad (i := 2) rfl (Or.inl rfl) rfl rfl)) (aa (iA (fun h => cv (pe_bm PySem.F.plainAttrs_list PySem.F.slot_list_append PySem.F.type_list_append cn (cD (i := 3) rfl (Or.inl rfl)) (bI h de))) (iC (ac rfl (g_dix (Nat.lt_of_le_of_lt (Nat.add_le_add_left (by decide) _) (hu8 hr)) (fun _ _ => rfl) (ad (i := 2) rfl (Or.inl rfl) rfl rfl) (ad (i := 5) rfl (Or.inl rfl) rfl rfl)) (ac rfl (ad (i := 4) rfl (Or.inl rfl) rfl rfl) ah))))
 ae) (aa (gs_put (i:=2) (Nat.lt_of_le_of_lt (Nat.add_le_add_left (by decide) _) (hu8 hr)) rfl (Or.inl rfl) rfl rfl rfl (ad (i:=5) rfl (Or.inl rfl) rfl rfl) (ad (i:=4) rfl (Or.inl rfl) rfl rfl))
 ae))
 ae) ae)
 ae)))
 (aa (cJ (bK (ad (i:=3) rfl (Or.inl rfl) rfl rfl) (fun _=>rfl)) eD ae)
 (aa (bu (ad (i:=2) rfl (Or.inl rfl) rfl rfl))
 ae)))))) ρ)
noncomputable abbrev ay:Stmt:=top 15
theorem aQ : aJ ["row_by_sign", "lengths", "waiting", "held", "sign", "row", "part"] ["row_by_sign"] (ab ay) := ⟨rfl, rfl, rfl, by decide +kernel, rfl, by decide +kernel, by decide +kernel⟩
theorem ig {f : Addr} {fd : FuncData} (Fu : Fun K "full_lengths" "full_lengths" ay f fd) (T : Txt K mg C tk) : FnOk P w K mg base CX0 1 f fd ["row_by_sign"] (spP (fun _ => C) bV) :=
 cZ (cl:=fun _=>C) (M:=t0) (fn:=dy) (kk:=0) Fu aQ rfl rfl (fun cdv A outer s H E hr ρ=>(show GSs (cxOf CX0 P w K mg base _ _ (ab ay) f cdv A outer s H E).nox (fun _=>C) t0 (af ay) dy.body from
 (aa (aT (i:=1) aQ.nd rfl (Or.inr rfl) rfl (Or.inl rfl) g_dnew)
 (aa (aT (i := 2) aQ.nd rfl (Or.inl rfl) rfl (Or.inl rfl) (cp (id := "sorted") (fun ds z h => dI rfl h) rfl T.msorted bG (by decide +kernel) rfl rfl rfl (ac rfl (ad (i := 0) rfl (Or.inr (Or.inl rfl)) rfl rfl) ah)))
 (aa (gs_whl PassesOwn.never (bK (ad (i:=2) rfl (Or.inl rfl) rfl rfl) (fun _=>rfl)) (aa (aT (i:=3) aQ.nd rfl (Or.inl rfl) rfl (Or.inl rfl) (dw ah))
 (aa (eE PassesOwn.never rfl (fun _=>rfl) (bt (ad (i:=2) rfl (Or.inl rfl) rfl rfl)) (aH (i:=4) aQ.nd rfl (Or.inl rfl)) bd (aa (aT (i:=5) aQ.nd rfl (Or.inl rfl) rfl (Or.inl rfl) (g_dix (Nat.lt_of_le_of_lt (Nat.add_le_add_left (by decide) _) (hu8 hr)) (fun _ _=>rfl) (ad (i:=0) rfl (Or.inr (Or.inl rfl)) rfl rfl) (ad (i:=4) rfl (Or.inl rfl) rfl rfl)))
 (aa (cJ (bK (cp (id := "any") (fun ds z h => bi_any rfl h) rfl T.many bt_any (by decide +kernel) rfl rfl rfl (ac rfl (fj rfl (bF rfl (by kernel_rfl)) (dX (by kernel_rfl)) (fun _ => rfl) (bt (ad (i := 5) rfl (Or.inl rfl) rfl rfl)) (fun X0 hX0 => by obtain ⟨C0, fp0, pins0, s0, H0, rfl⟩ := hX0; exact (aH (i := 6) aQ.nd rfl (Or.inl rfl))) bd (Or.inl ⟨rfl, rfl⟩) (fun X0 hX0 => by obtain ⟨C0, fp0, pins0, s0, H0, rfl⟩ := hX0; exact (g_and (g_cmpE (o := .mem) (hu8 hr) rfl (ad (i := 6) rfl (Or.inl rfl) rfl rfl) (ad (i := 0) rfl (Or.inr (Or.inl rfl)) rfl rfl)) (g_one (g_cmpE (o := .nmem) (hu8 hr) rfl (ad (i := 6) rfl (Or.inl rfl) rfl rfl) (ad (i := 1) rfl (Or.inr (Or.inl rfl)) rfl rfl)))))) ah)) (fun _ => rfl)) (aa (iA (fun h => cv (pe_bm PySem.F.plainAttrs_list PySem.F.slot_list_append PySem.F.type_list_append cn (cD (i := 3) rfl (Or.inl rfl)) (bI h de))) (ad (i := 4) rfl (Or.inl rfl) rfl rfl))
 ae) (aa (gs_put (i := 1) (Nat.lt_of_le_of_lt (Nat.add_le_add_left (by decide) _) (hu8 hr)) rfl (Or.inr (Or.inl rfl)) rfl rfl rfl (ad (i := 4) rfl (Or.inl rfl) rfl rfl) (cp (id := "sum") (fun ds z h => bi_sum rfl h) rfl T.msum bt_sum (by decide +kernel) rfl rfl rfl (ac rfl (fj rfl (bF rfl (by kernel_rfl)) (dX (by kernel_rfl)) (fun _ => rfl) (bt (ad (i := 5) rfl (Or.inl rfl) rfl rfl)) (fun X0 hX0 => by obtain ⟨C0, fp0, pins0, s0, H0, rfl⟩ := hX0; exact (aH (i := 6) aQ.nd rfl (Or.inl rfl))) bd (Or.inl ⟨rfl, rfl⟩) (fun X0 hX0 => by obtain ⟨C0, fp0, pins0, s0, H0, rfl⟩ := hX0; exact (g_get2 (Nat.lt_of_le_of_lt (Nat.add_le_add_left (by decide) _) (hu8 hr)) ⟨rfl, rfl, rfl, rfl⟩ (ad (i := 1) rfl (Or.inr (Or.inl rfl)) rfl rfl) (ad (i := 6) rfl (Or.inl rfl) rfl rfl) ap))) ah)))
 ae))
 ae)))
 (aa (cJ (bm (o:=.eq) (hu8 hr) rfl (ad (i:=3) rfl (Or.inl rfl) rfl rfl) (ad (i:=2) rfl (Or.inl rfl) rfl rfl)) eD ae)
 (aa (aT (i:=2) aQ.nd rfl (Or.inl rfl) rfl (Or.inl rfl) (ad (i:=3) rfl (Or.inl rfl) rfl rfl))
 ae)))))
 (aa (bu (ad (i:=1) rfl (Or.inr (Or.inl rfl)) rfl rfl))
 ae))))) ρ)
noncomputable abbrev aq:Stmt:=top 17
theorem db : aJ ["lengths", "sign"] ["lengths"] (ab aq) := ⟨rfl, rfl, rfl, by decide +kernel, rfl, by decide +kernel, by decide +kernel⟩
theorem fP {f : Addr} {fd : FuncData} (Fu : Fun K "refuse_too_long" "refuse_too_long" aq f fd) (T : Txt K mg C tk) : FnOk P w K mg base CX0 1 f fd ["lengths"] (spP (fun _ => C) bB) :=
 cZ (cl:=fun _=>C) (M:=t0) (fn:=cy) (kk:=0) Fu db rfl rfl (fun cdv A outer s H E hr ρ=>(show GSs (cxOf CX0 P w K mg base _ _ (ab aq) f cdv A outer s H E).nox (fun _=>C) t0 (af aq) cy.body from
 (aa (eE PassesOwn.never rfl (fun _ => rfl) (bt (cp (id := "sorted") (fun ds z h => dI rfl h) rfl T.msorted bG (by decide +kernel) rfl rfl rfl (ac rfl (ad (i := 0) rfl (Or.inl rfl) rfl rfl) ah))) (aH (i := 1) db.nd rfl (Or.inl rfl)) bd (aa (cJ (bm (o := .gt) (hu8 hr) rfl (g_dix (Nat.lt_of_le_of_lt (Nat.add_le_add_left (by decide) _) (hu8 hr)) (fun _ _ => rfl) (ad (i := 0) rfl (Or.inl rfl) rfl rfl) (ad (i := 1) rfl (Or.inl rfl) rfl rfl)) (g_glb rfl T.mLONGEST rfl)) eD ae)
 ae))
 ae)) ρ)
noncomputable abbrev aP:Stmt:=fB (top 10) 0
theorem fJ : aJ ["self", "marks", "rows", "shuts", "sign"] ["self", "marks", "rows", "shuts"] (ab aP) := ⟨rfl, rfl, rfl, by decide +kernel, rfl, by decide +kernel, by decide +kernel⟩
theorem jU {f : Addr} {fd : FuncData} (Fu : Fun K "__init__" "Table.__init__" aP f fd) (T : Txt K mg C tk) (L_refuse_twice : Lnk P w K mg base (fun _ => C) "refuse_twice" 2 ["marks", "rows", "shuts"] bU) (L_refuse_no_pair : Lnk P w K mg base (fun _ => C) "refuse_no_pair" 1 ["row_by_sign", "shuts"] bD) (L_signs_by_pair : Lnk P w K mg base (fun _ => C) "signs_by_pair" 1 ["row_by_sign", "shut_by_sign"] bR) (L_refuse_too_long : Lnk P w K mg base (fun _ => C) "refuse_too_long" 1 ["lengths"] bB) (L_full_lengths : Lnk P w K mg base (fun _ => C) "full_lengths" 1 ["row_by_sign"] bV) : FnOk P w K mg base CX0 3 f fd ["self", "marks", "rows", "shuts"] (spI (fun _ => C) 0 dN) :=
 init_ok (cl:=fun _=>C) (M:=t2) (fn:=cH) (kk:=2) Fu fJ rfl rfl (fun cdv A outer s H E hr ρ=>(show GSs (cxOf CX0 P w K mg base _ _ (ab aP) f cdv A outer s H E).nox (fun _=>C) t2 (af aP) cH.body from
 (aa (gs_expr rfl (aY L_refuse_twice hr (by decide) rfl rfl rfl rfl (ac rfl (ad (i:=1) rfl (Or.inl rfl) rfl rfl) (ac rfl (ad (i:=2) rfl (Or.inl rfl) rfl rfl) (ac rfl (ad (i:=3) rfl (Or.inl rfl) rfl rfl) ah)))))
 (aa (j4 rfl (Or.inl rfl) rfl rfl (fun _ => ⟨T.cl, T.n_rank_by_sign⟩) rfl (g_biT (id := "dict") (fun ds z h => bi_dict rfl h) rfl T.mdict bt_dict (by decide +kernel) rfl rfl rfl (ac rfl (ad (i := 1) rfl (Or.inl rfl) rfl rfl) ah)))
 (aa (j4 rfl (Or.inl rfl) rfl rfl (fun _ => ⟨T.cl, T.n_row_by_sign⟩) rfl (g_biT (id := "dict") (fun ds z h => bi_dict rfl h) rfl T.mdict bt_dict (by decide +kernel) rfl rfl rfl (ac rfl (ad (i := 2) rfl (Or.inl rfl) rfl rfl) ah)))
 (aa (j4 rfl (Or.inl rfl) rfl rfl (fun _ => ⟨T.cl, T.n_shut_by_sign⟩) rfl (g_biT (id := "dict") (fun ds z h => bi_dict rfl h) rfl T.mdict bt_dict (by decide +kernel) rfl rfl rfl (ac rfl (fj rfl (bF rfl (by kernel_rfl)) (dX (by kernel_rfl)) (fun _ => rfl) (bt (ad (i := 3) rfl (Or.inl rfl) rfl rfl)) (fun X0 hX0 => by obtain ⟨C0, fp0, pins0, s0, H0, rfl⟩ := hX0; exact (aH (i := 4) fJ.nd rfl (Or.inl rfl))) bd (Or.inl ⟨rfl, rfl⟩) (fun X0 hX0 => by obtain ⟨C0, fp0, pins0, s0, H0, rfl⟩ := hX0; exact (iC (ac rfl (ad (i := 4) rfl (Or.inl rfl) rfl rfl) (ac rfl g_bl ah))))) ah)))
 (aa (gs_expr rfl (aY L_refuse_no_pair hr (by decide) rfl rfl rfl rfl (ac rfl (iY rfl (fun _=>⟨T.cl,T.n_row_by_sign⟩) (ad (i:=0) rfl (Or.inl rfl) rfl rfl)) (ac rfl (ad (i:=3) rfl (Or.inl rfl) rfl rfl) ah))))
 (aa (j4 rfl (Or.inl rfl) rfl rfl (fun _=>⟨T.cl,T.n_sign_by_pair⟩) rfl (aY L_signs_by_pair hr (by decide) rfl rfl rfl rfl (ac rfl (iY rfl (fun _=>⟨T.cl,T.n_row_by_sign⟩) (ad (i:=0) rfl (Or.inl rfl) rfl rfl)) (ac rfl (iY rfl (fun _=>⟨T.cl,T.n_shut_by_sign⟩) (ad (i:=0) rfl (Or.inl rfl) rfl rfl)) ah))))
 (aa (gs_expr rfl (aY L_refuse_too_long hr (by decide) rfl rfl rfl rfl (ac rfl (aY L_full_lengths hr (by decide) rfl rfl rfl rfl (ac rfl (iY rfl (fun _=>⟨T.cl,T.n_row_by_sign⟩) (ad (i:=0) rfl (Or.inl rfl) rfl rfl)) ah)) ah)))
 ae)))))))) ρ) (by decide)
noncomputable abbrev aN:Stmt:=fB (top 10) 1
theorem jK : aJ ["self", "sign"] ["self", "sign"] (ab aN) := ⟨rfl, rfl, rfl, by decide +kernel, rfl, by decide +kernel, by decide +kernel⟩
theorem jS {f : Addr} {fd : FuncData} (Fu : Fun K "rank" "Table.rank" aN f fd) (T : Txt K mg C tk) : FnOk P w K mg base CX0 1 f fd ["self", "sign"] (spP (fun _ => C) hU) :=
 cZ (cl:=fun _=>C) (M:=t0) (fn:=eJ) (kk:=0) Fu jK rfl rfl (fun cdv A outer s H E hr ρ=>(show GSs (cxOf CX0 P w K mg base _ _ (ab aN) f cdv A outer s H E).nox (fun _=>C) t0 (af aN) eJ.body from
 (aa (bu (g_get2 (Nat.lt_of_le_of_lt (Nat.add_le_add_left (by decide) _) (hu8 hr)) ⟨rfl,rfl,rfl,rfl⟩ (iY rfl (fun _=>⟨T.cl,T.n_rank_by_sign⟩) (ad (i:=0) rfl (Or.inl rfl) rfl rfl)) (ad (i:=1) rfl (Or.inl rfl) rfl rfl) ap))
 ae)) ρ)
noncomputable abbrev aX:Stmt:=fB (top 10) 2
theorem sc_Table_row : aJ ["self", "sign"] ["self", "sign"] (ab aX) := ⟨rfl, rfl, rfl, by decide +kernel, rfl, by decide +kernel, by decide +kernel⟩
theorem ok_Table_row {f : Addr} {fd : FuncData} (Fu : Fun K "row" "Table.row" aX f fd) (T : Txt K mg C tk) : FnOk P w K mg base CX0 1 f fd ["self", "sign"] (spP (fun _ => C) r_trow) :=
 cZ (cl:=fun _=>C) (M:=t0) (fn:=fF) (kk:=0) Fu sc_Table_row rfl rfl (fun cdv A outer s H E hr ρ=>(show GSs (cxOf CX0 P w K mg base _ _ (ab aX) f cdv A outer s H E).nox (fun _=>C) t0 (af aX) fF.body from
 (aa (bu (g_get1 (Nat.lt_of_le_of_lt (Nat.add_le_add_left (by decide) _) (hu8 hr)) ⟨rfl,rfl,rfl,rfl⟩ (iY rfl (fun _=>⟨T.cl,T.n_row_by_sign⟩) (ad (i:=0) rfl (Or.inl rfl) rfl rfl)) (ad (i:=1) rfl (Or.inl rfl) rfl rfl)))
 ae)) ρ)
noncomputable abbrev aO:Stmt:=fB (top 10) 4
theorem jL : aJ ["self", "one", "other"] ["self", "one", "other"] (ab aO) := ⟨rfl, rfl, rfl, by decide +kernel, rfl, by decide +kernel, by decide +kernel⟩
theorem jT {f : Addr} {fd : FuncData} (Fu : Fun K "pair" "Table.pair" aO f fd) (T : Txt K mg C tk) : FnOk P w K mg base CX0 1 f fd ["self", "one", "other"] (spP (fun _ => C) hZ) :=
 cZ (cl:=fun _=>C) (M:=t0) (fn:=cG) (kk:=0) Fu jL rfl rfl (fun cdv A outer s H E hr ρ=>(show GSs (cxOf CX0 P w K mg base _ _ (ab aO) f cdv A outer s H E).nox (fun _=>C) t0 (af aO) cG.body from
 (aa (bu (g_get1 (Nat.lt_of_le_of_lt (Nat.add_le_add_left (by decide) _) (hu8 hr)) ⟨rfl,rfl,rfl,rfl⟩ (iY rfl (fun _=>⟨T.cl,T.n_sign_by_pair⟩) (ad (i:=0) rfl (Or.inl rfl) rfl rfl)) (iC (ac rfl (ad (i:=1) rfl (Or.inl rfl) rfl rfl) (ac rfl (ad (i:=2) rfl (Or.inl rfl) rfl rfl) ah)))))
 ae)) ρ)
noncomputable abbrev aG:Stmt:=fB (top 10) 5
theorem iT : aJ ["self"] ["self"] (ab aG) := ⟨rfl, rfl, rfl, by decide +kernel, rfl, by decide +kernel, by decide +kernel⟩
theorem iW {f : Addr} {fd : FuncData} (Fu : Fun K "marks" "Table.marks" aG f fd) (T : Txt K mg C tk) : FnOk P w K mg base CX0 1 f fd ["self"] (spP (fun _ => C) eX) :=
 cZ (cl:=fun _=>C) (M:=t0) (fn:=dS) (kk:=0) Fu iT rfl rfl (fun cdv A outer s H E hr ρ=>(show GSs (cxOf CX0 P w K mg base _ _ (ab aG) f cdv A outer s H E).nox (fun _=>C) t0 (af aG) dS.body from
 (aa (bu (g_sortI rfl rfl T.msorted bG (by decide +kernel) rfl rfl rfl (iY rfl (fun _=>⟨T.cl,T.n_rank_by_sign⟩) (ad (i:=0) rfl (Or.inl rfl) rfl rfl))))
 ae)) ρ)
noncomputable abbrev aM:Stmt:=fB (top 10) 6
theorem jJ : aJ ["self"] ["self"] (ab aM) := ⟨rfl, rfl, rfl, by decide +kernel, rfl, by decide +kernel, by decide +kernel⟩
theorem jR {f : Addr} {fd : FuncData} (Fu : Fun K "rows" "Table.rows" aM f fd) (T : Txt K mg C tk) : FnOk P w K mg base CX0 1 f fd ["self"] (spP (fun _ => C) fX) :=
 cZ (cl:=fun _=>C) (M:=t0) (fn:=eI) (kk:=0) Fu jJ rfl rfl (fun cdv A outer s H E hr ρ=>(show GSs (cxOf CX0 P w K mg base _ _ (ab aM) f cdv A outer s H E).nox (fun _=>C) t0 (af aM) eI.body from
 (aa (bu (g_sortI rfl rfl T.msorted bG (by decide +kernel) rfl rfl rfl (iY rfl (fun _=>⟨T.cl,T.n_row_by_sign⟩) (ad (i:=0) rfl (Or.inl rfl) rfl rfl))))
 ae)) ρ)
noncomputable abbrev aE:Stmt:=fB (top 10) 7
theorem iS : aJ ["self"] ["self"] (ab aE) := ⟨rfl, rfl, rfl, by decide +kernel, rfl, by decide +kernel, by decide +kernel⟩
theorem iV {f : Addr} {fd : FuncData} (Fu : Fun K "shuts" "Table.shuts" aE f fd) (T : Txt K mg C tk) : FnOk P w K mg base CX0 1 f fd ["self"] (spP (fun _ => C) eV) :=
 cZ (cl:=fun _=>C) (M:=t0) (fn:=dR) (kk:=0) Fu iS rfl rfl (fun cdv A outer s H E hr ρ=>(show GSs (cxOf CX0 P w K mg base _ _ (ab aE) f cdv A outer s H E).nox (fun _=>C) t0 (af aE) dR.body from
 (aa (bu (cp (id := "sorted") (fun ds z h => dI rfl h) rfl T.msorted bG (by decide +kernel) rfl rfl rfl (ac rfl (iY rfl (fun _ => ⟨T.cl, T.n_shut_by_sign⟩) (ad (i := 0) rfl (Or.inl rfl) rfl rfl)) ah)))
 ae)) ρ)
noncomputable abbrev aW:Stmt:=top 19
theorem sc_l_cell_at : aJ ["_law_script", "_law_k"] ["_law_script", "_law_k"] (ab aW) := ⟨rfl, rfl, rfl, by decide +kernel, rfl, by decide +kernel, by decide +kernel⟩
theorem ok_l_cell_at {f : Addr} {fd : FuncData} (Fu : Fun K "_law_cell_at" "_law_cell_at" aW f fd) (T : Txt K mg C tk) : FnOk P w K mg base CX0 1 f fd ["_law_script", "_law_k"] (spP (fun _ => C) dE) :=
 cZ (cl:=fun _=>C) (M:=t0) (fn:=dQ) (kk:=0) Fu sc_l_cell_at rfl rfl (fun cdv A outer s H E hr ρ=>(show GSs (cxOf CX0 P w K mg base _ _ (ab aW) f cdv A outer s H E).nox (fun _=>C) t0 (af aW) dQ.body from
 (aa (cJ (bm (o := .lt) (hu8 hr) rfl (ad (i := 1) rfl (Or.inl rfl) rfl rfl) (cp (id := "len") (fun ds z h => d0 h) rfl T.mlen dZ (by decide +kernel) rfl rfl rfl (ac rfl (ad (i := 0) rfl (Or.inl rfl) rfl rfl) ah))) (aa (bu (g_ix (fun _ _ => rfl) (ad (i := 0) rfl (Or.inl rfl) rfl rfl) (ad (i := 1) rfl (Or.inl rfl) rfl rfl)))
 ae) ae)
 (aa (bu ap)
 ae))) ρ)
noncomputable abbrev bx:Stmt:=top 20
theorem sc_l_whole : aJ ["_law_found"] ["_law_found"] (ab bx) := ⟨rfl, rfl, rfl, by decide +kernel, rfl, by decide +kernel, by decide +kernel⟩
theorem ok_l_whole {f : Addr} {fd : FuncData} (Fu : Fun K "_law_whole" "_law_whole" bx f fd) (T : Txt K mg C tk) : FnOk P w K mg base CX0 1 f fd ["_law_found"] (spP (fun _ => C) hJ) :=
 cZ (cl:=fun _=>C) (M:=t0) (fn:=iG) (kk:=0) Fu sc_l_whole rfl rfl (fun cdv A outer s H E hr ρ=>(show GSs (cxOf CX0 P w K mg base _ _ (ab bx) f cdv A outer s H E).nox (fun _=>C) t0 (af bx) iG.body from
 (aa (bu (g_and (g_isi (T := "int") (isi_int K) rfl T.misinstance bS (by decide +kernel) rfl rfl T.mint bt_int (by decide +kernel) rfl rfl rfl rfl (ad (i := 0) rfl (Or.inl rfl) rfl rfl)) (g_one (g_not (g_isi (T := "bool") (isi_bool K) rfl T.misinstance bS (by decide +kernel) rfl rfl T.mbool bt_bool (by decide +kernel) rfl rfl rfl rfl (ad (i := 0) rfl (Or.inl rfl) rfl rfl))))))
 ae)) ρ)
noncomputable abbrev bN:Stmt:=top 21
theorem ee : aJ ["_law_cell", "_law_pool", "_law_number", "_law_sign_here"] ["_law_cell", "_law_pool"] (ab bN) := ⟨rfl, rfl, rfl, by decide +kernel, rfl, by decide +kernel, by decide +kernel⟩
theorem ok_l_sign {f : Addr} {fd : FuncData} (Fu : Fun K "_law_sign" "_law_sign" bN f fd) (T : Txt K mg C tk) : FnOk P w K mg base CX0 1 f fd ["_law_cell", "_law_pool"] (spP (fun _ => C) r_sign) :=
 cZ (cl:=fun _=>C) (M:=t0) (fn:=dk) (kk:=0) Fu ee rfl rfl (fun cdv A outer s H E hr ρ=>(show GSs (cxOf CX0 P w K mg base _ _ (ab bN) f cdv A outer s H E).nox (fun _=>C) t0 (af bN) dk.body from
 (aa (aT (i:=2) ee.nd rfl (Or.inl rfl) rfl (Or.inl rfl) (aU (op:=.fdiv) (ad (i:=0) rfl (Or.inl rfl) rfl rfl) ap))
 (aa (aT (i:=3) ee.nd rfl (Or.inl rfl) rfl (Or.inl rfl) (g_ix (fun _ _=>rfl) (dw (ac rfl (aU (op:=.mod) (ad (i:=2) rfl (Or.inl rfl) rfl rfl) ap) (ac rfl (aU (op:=.mod) (ad (i:=2) rfl (Or.inl rfl) rfl rfl) (aU (op:=.pow) ap ap)) (ac rfl (aU (op:=.sub) (aU (op:=.sub) (aU (op:=.pow) ap ap) ap) (aU (op:=.mod) (ad (i:=2) rfl (Or.inl rfl) rfl rfl) ap)) (ac rfl (aU (op:=.mod) (ad (i:=2) rfl (Or.inl rfl) rfl rfl) ap) ah))))) (aU (op:=.mod) (ad (i:=0) rfl (Or.inl rfl) rfl rfl) ap)))
 (aa (cJ (fQ (gp (bm (o := .eq) (hu8 hr) rfl (aU (op := .mod) (ad (i := 0) rfl (Or.inl rfl) rfl rfl) ap) ap) (fD (bm (o := .ne) (hu8 hr) rfl (ad (i := 1) rfl (Or.inl rfl) rfl rfl) (dw ah))))) (aa (aT (i := 3) ee.nd rfl (Or.inl rfl) rfl (Or.inl rfl) (aU (op := .mod) (aU (op := .sub) (aU (op := .add) (g_ix (fun _ _ => rfl) (ad (i := 1) rfl (Or.inl rfl) rfl rfl) (aU (op := .mod) (ad (i := 2) rfl (Or.inl rfl) rfl rfl) (cp (id := "len") (fun ds z h => d0 h) rfl T.mlen dZ (by decide +kernel) rfl rfl rfl (ac rfl (ad (i := 1) rfl (Or.inl rfl) rfl rfl) ah)))) (aU (op := .mod) (aU (op := .fdiv) (ad (i := 2) rfl (Or.inl rfl) rfl rfl) ap) ap)) ap) (aU (op := .pow) ap ap)))
 ae) ae)
 (aa (gs_whl PassesOwn.never (bm (o:=.mem) (hu8 hr) rfl (ad (i:=3) rfl (Or.inl rfl) rfl rfl) (ad (i:=1) rfl (Or.inl rfl) rfl rfl)) (aa (aT (i:=3) ee.nd rfl (Or.inl rfl) rfl (Or.inl rfl) (aU (op:=.mod) (aU (op:=.add) (ad (i:=3) rfl (Or.inl rfl) rfl rfl) ap) (aU (op:=.pow) ap ap)))
 ae))
 (aa (bu (ad (i:=3) rfl (Or.inl rfl) rfl rfl))
 ae)))))) ρ)
noncomputable abbrev bO:Stmt:=top 22
theorem sc_l_rank : aJ ["_law_number"] ["_law_number"] (ab bO) := ⟨rfl, rfl, rfl, by decide +kernel, rfl, by decide +kernel, by decide +kernel⟩
theorem ok_l_rank {f : Addr} {fd : FuncData} (Fu : Fun K "_law_rank" "_law_rank" bO f fd) (T : Txt K mg C tk) : FnOk P w K mg base CX0 1 f fd ["_law_number"] (spP (fun _ => C) r_rank) :=
 cZ (cl:=fun _=>C) (M:=t0) (fn:=j6) (kk:=0) Fu sc_l_rank rfl rfl (fun cdv A outer s H E hr ρ=>(show GSs (cxOf CX0 P w K mg base _ _ (ab bO) f cdv A outer s H E).nox (fun _=>C) t0 (af bO) j6.body from
 (aa (bu (aU (op:=.add) ap (aU (op:=.mod) (aU (op:=.fdiv) (ad (i:=0) rfl (Or.inl rfl) rfl rfl) ap) (g_ix (fun _ _=>rfl) (dw (ac rfl ap (ac rfl ap (ac rfl ap ah)))) (aU (op:=.mod) (ad (i:=0) rfl (Or.inl rfl) rfl rfl) ap)))))
 ae)) ρ)
noncomputable abbrev cf:Stmt:=top 23
theorem jI : aJ ["_law_number", "_law_pool", "_law_one", "_law_other"] ["_law_number", "_law_pool"] (ab cf) := ⟨rfl, rfl, rfl, by decide +kernel, rfl, by decide +kernel, by decide +kernel⟩
theorem ok_l_row {f : Addr} {fd : FuncData} (Fu : Fun K "_law_row" "_law_row" cf f fd) (T : Txt K mg C tk) : FnOk P w K mg base CX0 1 f fd ["_law_number", "_law_pool"] (spP (fun _ => C) r_row) :=
 cZ (cl:=fun _=>C) (M:=t0) (fn:=iH) (kk:=0) Fu jI rfl rfl (fun cdv A outer s H E hr ρ=>(show GSs (cxOf CX0 P w K mg base _ _ (ab cf) f cdv A outer s H E).nox (fun _=>C) t0 (af cf) iH.body from
 (aa (aT (i := 2) jI.nd rfl (Or.inl rfl) rfl (Or.inl rfl) (g_ix (fun _ _ => rfl) (ad (i := 1) rfl (Or.inl rfl) rfl rfl) (aU (op := .mod) (aU (op := .fdiv) (ad (i := 0) rfl (Or.inl rfl) rfl rfl) ap) (cp (id := "len") (fun ds z h => d0 h) rfl T.mlen dZ (by decide +kernel) rfl rfl rfl (ac rfl (ad (i := 1) rfl (Or.inl rfl) rfl rfl) ah)))))
 (aa (aT (i := 3) jI.nd rfl (Or.inl rfl) rfl (Or.inl rfl) (g_ix (fun _ _ => rfl) (ad (i := 1) rfl (Or.inl rfl) rfl rfl) (aU (op := .mod) (aU (op := .fdiv) (aU (op := .fdiv) (ad (i := 0) rfl (Or.inl rfl) rfl rfl) ap) (cp (id := "len") (fun ds z h => d0 h) rfl T.mlen dZ (by decide +kernel) rfl rfl rfl (ac rfl (ad (i := 1) rfl (Or.inl rfl) rfl rfl) ah))) (cp (id := "len") (fun ds z h => d0 h) rfl T.mlen dZ (by decide +kernel) rfl rfl rfl (ac rfl (ad (i := 1) rfl (Or.inl rfl) rfl rfl) ah)))))
 (aa (cJ (bm (o:=.eq) (hu8 hr) rfl (aU (op:=.mod) (ad (i:=0) rfl (Or.inl rfl) rfl rfl) ap) ap) (aa (bu (iC (ac rfl (ad (i:=2) rfl (Or.inl rfl) rfl rfl) ah)))
 ae) ae)
 (aa (bu (iC (ac rfl (ad (i:=2) rfl (Or.inl rfl) rfl rfl) (ac rfl (ad (i:=3) rfl (Or.inl rfl) rfl rfl) ah))))
 ae))))) ρ)
noncomputable abbrev bz:Stmt:=top 24
theorem aS : aJ ["_law_cells", "_law_pool", "_law_marks", "_law_rows", "_law_shuts", "_law_sizes", "_law_k", "_law_sign_here", "_law_number", "_law_row_here", "_law_size", "_law_part", "_law_alike_row", "_law_one", "_law_two"] ["_law_cells"] (ab bz) := ⟨rfl, rfl, rfl, by decide +kernel, rfl, by decide +kernel, by decide +kernel⟩
theorem ok_l_table {f : Addr} {fd : FuncData} (Fu : Fun K "_law_table" "_law_table" bz f fd) (T : Txt K mg C tk) (L_l_sign : Lnk P w K mg base (fun _ => C) "_law_sign" 1 ["_law_cell", "_law_pool"] r_sign) (L_l_row : Lnk P w K mg base (fun _ => C) "_law_row" 1 ["_law_number", "_law_pool"] r_row) (L_l_rank : Lnk P w K mg base (fun _ => C) "_law_rank" 1 ["_law_number"] r_rank) : FnOk P w K mg base CX0 2 f fd ["_law_cells"] (spP (fun _ => C) hV) :=
 cZ (cl:=fun _=>C) (M:=t3) (fn:=dH) (kk:=1) Fu aS rfl rfl (fun cdv A outer s H E hr ρ=>(show GSs (cxOf CX0 P w K mg base _ _ (ab bz) f cdv A outer s H E).nox (fun _=>C) t3 (af bz) dH.body from
 (aa (aT (i:=1) aS.nd rfl (Or.inl rfl) rfl (Or.inl rfl) (dw ah))
 (aa (aT (i:=2) aS.nd rfl (Or.inl rfl) rfl (Or.inl rfl) (dw ah))
 (aa (aT (i:=3) aS.nd rfl (Or.inl rfl) rfl (Or.inl rfl) (dw ah))
 (aa (aT (i:=4) aS.nd rfl (Or.inr rfl) rfl (Or.inl rfl) (dw ah))
 (aa (aT (i:=5) aS.nd rfl (Or.inr rfl) rfl (Or.inl rfl) g_dnew)
 (aa (eE PassesOwn.never rfl (fun _ => rfl) (gi_range3 rfl T.mrange rfl rfl (ac rfl ap (ac rfl (aU (op := .sub) (cp (id := "len") (fun ds z h => d0 h) rfl T.mlen dZ (by decide +kernel) rfl rfl rfl (ac rfl (ad (i := 0) rfl (Or.inl rfl) rfl rfl) ah)) ap) (ac rfl ap ah)))) (aH (i := 6) aS.nd rfl (Or.inl rfl)) bd (aa (aT (i := 7) aS.nd rfl (Or.inl rfl) rfl (Or.inl rfl) (aY L_l_sign hr (by decide) rfl rfl rfl rfl (ac rfl (g_ix (fun _ _ => rfl) (ad (i := 0) rfl (Or.inl rfl) rfl rfl) (ad (i := 6) rfl (Or.inl rfl) rfl rfl)) (ac rfl (ad (i := 1) rfl (Or.inl rfl) rfl rfl) ah))))
 (aa (aT (i:=8) aS.nd rfl (Or.inl rfl) rfl (Or.inl rfl) (aU (op:=.fdiv) (g_ix (fun _ _=>rfl) (ad (i:=0) rfl (Or.inl rfl) rfl rfl) (aU (op:=.add) (ad (i:=6) rfl (Or.inl rfl) rfl rfl) ap)) ap))
 (aa (aT (i:=9) aS.nd rfl (Or.inr rfl) rfl (Or.inl rfl) (iC ah))
 (aa (cJ (fQ (gp (bm (o:=.ne) (hu8 hr) rfl (ad (i:=1) rfl (Or.inl rfl) rfl rfl) (dw ah)) (fD (bm (o:=.gt) (hu8 hr) rfl (aU (op:=.mod) (g_ix (fun _ _=>rfl) (ad (i:=0) rfl (Or.inl rfl) rfl rfl) (aU (op:=.add) (ad (i:=6) rfl (Or.inl rfl) rfl rfl) ap)) ap) ap)))) (aa (aT (i:=9) aS.nd rfl (Or.inr rfl) rfl (Or.inl rfl) (aY L_l_row hr (by decide) rfl rfl rfl rfl (ac rfl (ad (i:=8) rfl (Or.inl rfl) rfl rfl) (ac rfl (ad (i:=1) rfl (Or.inl rfl) rfl rfl) ah))))
 ae) ae)
 (aa (aT (i := 10) aS.nd rfl (Or.inl rfl) rfl (Or.inl rfl) (cp (id := "sum") (fun ds z h => bi_sum rfl h) rfl T.msum bt_sum (by decide +kernel) rfl rfl rfl (ac rfl (fj rfl (bF rfl (by kernel_rfl)) (dX (by kernel_rfl)) (fun _ => rfl) (bt (ad (i := 9) rfl (Or.inr (Or.inl rfl)) rfl rfl)) (fun X0 hX0 => by obtain ⟨C0, fp0, pins0, s0, H0, rfl⟩ := hX0; exact (aH (i := 11) aS.nd rfl (Or.inl rfl))) bd (Or.inl ⟨rfl, rfl⟩) (fun X0 hX0 => by obtain ⟨C0, fp0, pins0, s0, H0, rfl⟩ := hX0; exact (g_dix (Nat.lt_of_le_of_lt (Nat.add_le_add_left (by decide) _) (hu8 hr)) (fun _ _ => rfl) (ad (i := 5) rfl (Or.inr (Or.inl rfl)) rfl rfl) (ad (i := 11) rfl (Or.inl rfl) rfl rfl)))) ah)))
 (aa (cJ (bm (o:=.eq) (hu8 hr) rfl (aU (op:=.mod) (g_ix (fun _ _=>rfl) (ad (i:=0) rfl (Or.inl rfl) rfl rfl) (aU (op:=.add) (ad (i:=6) rfl (Or.inl rfl) rfl rfl) ap)) ap) ap) (aa (iA (fun h=>cv (pe_bm PySem.F.plainAttrs_list PySem.F.slot_list_append PySem.F.type_list_append cn (cD (i:=2) rfl (Or.inl rfl)) (bI h de))) (iC (ac rfl (ad (i:=7) rfl (Or.inl rfl) rfl rfl) (ac rfl (aY L_l_rank hr (by decide) rfl rfl rfl rfl (ac rfl (ad (i:=8) rfl (Or.inl rfl) rfl rfl) ah)) ah))))
 ae) ae)
 (aa (cJ (fQ (gp (bm (o:=.ne) (hu8 hr) rfl (ad (i:=9) rfl (Or.inr (Or.inl rfl)) rfl rfl) (iC ah)) (fD (bm (o:=.lt) (hu8 hr) rfl (ad (i:=10) rfl (Or.inl rfl) rfl rfl) ap)))) (aa (iA (fun h=>cv (pe_bm PySem.F.plainAttrs_list PySem.F.slot_list_append PySem.F.type_list_append cn (cD (i:=3) rfl (Or.inl rfl)) (bI h de))) (iC (ac rfl (ad (i:=7) rfl (Or.inl rfl) rfl rfl) (ac rfl (ad (i:=9) rfl (Or.inr (Or.inl rfl)) rfl rfl) ah))))
 (aa (gs_put (i:=5) (Nat.lt_of_le_of_lt (Nat.add_le_add_left (by decide) _) (hu8 hr)) rfl (Or.inr (Or.inl rfl)) rfl rfl rfl (ad (i:=7) rfl (Or.inl rfl) rfl rfl) (ad (i:=10) rfl (Or.inl rfl) rfl rfl))
 (aa (jk rfl aS.nd rfl (Or.inl rfl) (bF rfl (by kernel_rfl)) (dX (by kernel_rfl)) (fun _=>rfl) rfl (Or.inl rfl) (bt (g_sl (ad (i:=3) rfl (Or.inl rfl) rfl rfl) go_none (iB (g_neg ap) (by intro z; cases z)))) (fun X0 hX0=>by obtain ⟨C0,fp0,pins0,s0,H0,rfl⟩:=hX0; exact (pg_tup rfl (bW (aH (i:=13) aS.nd rfl (Or.inl rfl)) (bW (aH (i:=14) aS.nd rfl (Or.inl rfl)) ic)) rfl rfl)) (gR (tg:=[13,14])) (Or.inr ⟨_,rfl,fun X0 hX0=>by obtain ⟨C0,fp0,pins0,s0,H0,rfl⟩:=hX0; exact (fQ (gp (bm (o:=.eq) (hu8 hr) rfl (ad (i:=14) rfl (Or.inl rfl) rfl rfl) (ad (i:=9) rfl (Or.inr (Or.inl rfl)) rfl rfl)) (fD (bm (o:=.nmem) (hu8 hr) rfl (ad (i:=13) rfl (Or.inl rfl) rfl rfl) (ad (i:=4) rfl (Or.inr (Or.inl rfl)) rfl rfl)))))⟩) (fun X0 hX0=>by obtain ⟨C0,fp0,pins0,s0,H0,rfl⟩:=hX0; exact (ad (i:=13) rfl (Or.inl rfl) rfl rfl)))
 (aa (cJ (fQ (gp (bm (o := .eq) (hu8 hr) rfl (cp (id := "len") (fun ds z h => d0 h) rfl T.mlen dZ (by decide +kernel) rfl rfl rfl (ac rfl (ad (i := 9) rfl (Or.inr (Or.inl rfl)) rfl rfl) ah)) ap) (fD (fQ (gw_or (bm (o := .ne) (hu8 hr) rfl (ad (i := 12) rfl (Or.inl rfl) rfl rfl) (dw ah)) (iz (bm (o := .eq) (hu8 hr) rfl (aU (op := .mod) (aU (op := .fdiv) (ad (i := 8) rfl (Or.inl rfl) rfl rfl) ap) ap) ap))))))) (aa (iA (fun h => cv (pe_bm PySem.F.plainAttrs_list PySem.F.slot_list_append PySem.F.type_list_append cn (cD (i := 4) rfl (Or.inr (Or.inl rfl))) (bI h de))) (ad (i := 7) rfl (Or.inl rfl) rfl rfl))
 ae) ae)
 ae)))) (aa (gs_put (i:=5) (Nat.lt_of_le_of_lt (Nat.add_le_add_left (by decide) _) (hu8 hr)) rfl (Or.inr (Or.inl rfl)) rfl rfl rfl (ad (i:=7) rfl (Or.inl rfl) rfl rfl) ap)
 ae))
 (aa (iA (fun h=>cv (pe_bm PySem.F.plainAttrs_list PySem.F.slot_list_append PySem.F.type_list_append cn (cD (i:=1) rfl (Or.inl rfl)) (bI h de))) (ad (i:=7) rfl (Or.inl rfl) rfl rfl))
 ae)))))))))
 (aa (bu (iC (ac rfl (ad (i:=2) rfl (Or.inl rfl) rfl rfl) (ac rfl (ad (i:=3) rfl (Or.inl rfl) rfl rfl) (ac rfl (ad (i:=4) rfl (Or.inr (Or.inl rfl)) rfl rfl) (ac rfl (ad (i:=1) rfl (Or.inl rfl) rfl rfl) ah))))))
 ae)))))))) ρ)
noncomputable abbrev bh:Stmt:=top 25
theorem fu : aJ ["_law_row_here", "_law_number", "_law_at", "_law_found"] ["_law_row_here", "_law_number"] (ab bh) := ⟨rfl, rfl, rfl, by decide +kernel, rfl, by decide +kernel, by decide +kernel⟩
theorem ok_l_turned {f : Addr} {fd : FuncData} (Fu : Fun K "_law_turned" "_law_turned" bh f fd) (T : Txt K mg C tk) : FnOk P w K mg base CX0 1 f fd ["_law_row_here", "_law_number"] (spP (fun _ => C) cB) :=
 cZ (cl:=fun _=>C) (M:=t0) (fn:=gg) (kk:=0) Fu fu rfl rfl (fun cdv A outer s H E hr ρ=>(show GSs (cxOf CX0 P w K mg base _ _ (ab bh) f cdv A outer s H E).nox (fun _=>C) t0 (af bh) gg.body from
 (aa (aT (i := 2) fu.nd rfl (Or.inl rfl) rfl (Or.inl rfl) (aU (op := .mod) (ad (i := 1) rfl (Or.inl rfl) rfl rfl) (aU (op := .add) (cp (id := "len") (fun ds z h => d0 h) rfl T.mlen dZ (by decide +kernel) rfl rfl rfl (ac rfl (ad (i := 0) rfl (Or.inl rfl) rfl rfl) ah)) ap)))
 (aa (aT (i:=3) fu.nd rfl (Or.inl rfl) rfl (Or.inl rfl) (aU (op:=.add) (g_sl (ad (i:=0) rfl (Or.inl rfl) rfl rfl) (iB (ad (i:=2) rfl (Or.inl rfl) rfl rfl) (by intro z; cases z)) go_none) (g_sl (ad (i:=0) rfl (Or.inl rfl) rfl rfl) go_none (iB (ad (i:=2) rfl (Or.inl rfl) rfl rfl) (by intro z; cases z)))))
 (aa (cJ (bm (o:=.eq) (hu8 hr) rfl (aU (op:=.mod) (ad (i:=1) rfl (Or.inl rfl) rfl rfl) ap) ap) (aa (gs_rvs (cv (pe_bm0 PySem.F.plainAttrs_list PySem.F.slot_list_reverse PySem.F.type_list_reverse je (cD (i:=3) rfl (Or.inl rfl)))))
 ae) ae)
 (aa (bu (ad (i:=3) rfl (Or.inl rfl) rfl rfl))
 ae))))) ρ)
noncomputable abbrev bA:Stmt:=top 26
theorem dC : aJ ["_law_told_here", "_law_mark", "_law_row_here", "_law_sign_here"] ["_law_told_here"] (ab bA) := ⟨rfl, rfl, rfl, by decide +kernel, rfl, by decide +kernel, by decide +kernel⟩
theorem ok_l_kinds {f : Addr} {fd : FuncData} (Fu : Fun K "_law_kinds" "_law_kinds" bA f fd) (T : Txt K mg C tk) (L_l_whole : Lnk P w K mg base (fun _ => C) "_law_whole" 1 ["_law_found"] hJ) : FnOk P w K mg base CX0 2 f fd ["_law_told_here"] (spP (fun _ => C) h8) :=
 cZ (cl:=fun _=>C) (M:=t30) (fn:=iI) (kk:=1) Fu dC rfl rfl (fun cdv A outer s H E hr ρ=>(show GSs (cxOf CX0 P w K mg base _ _ (ab bA) f cdv A outer s H E).nox (fun _=>C) t30 (af bA) iI.body from
 (aa (eE PassesOwn.never rfl (fun _ => rfl) (bt (g_ix (fun _ _ => rfl) (ad (i := 0) rfl (Or.inl rfl) rfl rfl) ap)) (aH (i := 1) dC.nd rfl (Or.inl rfl)) bd (aa (cJ (fQ (gw_or (fi (bK (g_isi (T := "tuple") (iq K) rfl T.misinstance bS (by decide +kernel) rfl rfl T.mtuple ka (by decide +kernel) rfl rfl rfl rfl (ad (i := 1) rfl (Or.inl rfl) rfl rfl)) (fun _ => rfl))) (gw_or (fi (bK (aY L_l_whole hr (by decide) rfl rfl rfl rfl (ac rfl (g_ix (fun _ _ => rfl) (ad (i := 1) rfl (Or.inl rfl) rfl rfl) ap) ah)) (fun _ => rfl))) (iz (fi (bK (aY L_l_whole hr (by decide) rfl rfl rfl rfl (ac rfl (g_ix (fun _ _ => rfl) (ad (i := 1) rfl (Or.inl rfl) rfl rfl) ap) ah)) (fun _ => rfl))))))) (aa (bu g_bl)
 ae) ae)
 ae))
 (aa (eE PassesOwn.never rfl (fun _ => rfl) (bt (g_ix (fun _ _ => rfl) (ad (i := 0) rfl (Or.inl rfl) rfl rfl) ap)) (aH (i := 2) dC.nd rfl (Or.inl rfl)) bd (aa (cJ (fQ (gw_or (fi (bK (g_isi (T := "tuple") (iq K) rfl T.misinstance bS (by decide +kernel) rfl rfl T.mtuple ka (by decide +kernel) rfl rfl rfl rfl (ad (i := 2) rfl (Or.inl rfl) rfl rfl)) (fun _ => rfl))) (iz (fi (bK (g_isi (T := "tuple") (iq K) rfl T.misinstance bS (by decide +kernel) rfl rfl T.mtuple ka (by decide +kernel) rfl rfl rfl rfl (g_ix (fun _ _ => rfl) (ad (i := 2) rfl (Or.inl rfl) rfl rfl) ap)) (fun _ => rfl)))))) (aa (bu g_bl)
 ae) ae)
 (aa (cJ (fQ (gw_or (fi (bK (aY L_l_whole hr (by decide) rfl rfl rfl rfl (ac rfl (g_ix (fun _ _ => rfl) (ad (i := 2) rfl (Or.inl rfl) rfl rfl) ap) ah)) (fun _ => rfl))) (iz (fi (bK (cp (id := "all") (fun ds z h => bi_all rfl h) rfl T.mall bt_all (by decide +kernel) rfl rfl rfl (ac rfl (fj rfl (bF rfl (by kernel_rfl)) (dX (by kernel_rfl)) (fun _ => rfl) (bt (g_ix (fun _ _ => rfl) (ad (i := 2) rfl (Or.inl rfl) rfl rfl) ap)) (fun X0 hX0 => by obtain ⟨C0, fp0, pins0, s0, H0, rfl⟩ := hX0; exact (aH (i := 3) dC.nd rfl (Or.inl rfl))) bd (Or.inl ⟨rfl, rfl⟩) (fun X0 hX0 => by obtain ⟨C0, fp0, pins0, s0, H0, rfl⟩ := hX0; exact (aY L_l_whole hr (by decide) rfl rfl rfl rfl (ac rfl (ad (i := 3) rfl (Or.inl rfl) rfl rfl) ah)))) ah)) (fun _ => rfl)))))) (aa (bu g_bl)
 ae) ae)
 ae)))
 (aa (bu (cp (id := "all") (fun ds z h => bi_all rfl h) rfl T.mall bt_all (by decide +kernel) rfl rfl rfl (ac rfl (fj rfl (bF rfl (by kernel_rfl)) (dX (by kernel_rfl)) (fun _ => rfl) (bt (g_ix (fun _ _ => rfl) (ad (i := 0) rfl (Or.inl rfl) rfl rfl) ap)) (fun X0 hX0 => by obtain ⟨C0, fp0, pins0, s0, H0, rfl⟩ := hX0; exact (aH (i := 3) dC.nd rfl (Or.inl rfl))) bd (Or.inl ⟨rfl, rfl⟩) (fun X0 hX0 => by obtain ⟨C0, fp0, pins0, s0, H0, rfl⟩ := hX0; exact (aY L_l_whole hr (by decide) rfl rfl rfl rfl (ac rfl (ad (i := 3) rfl (Or.inl rfl) rfl rfl) ah)))) ah)))
 ae)))) ρ)
noncomputable abbrev bM:Stmt:=top 27
theorem fI : aJ ["_law_table_here", "_law_way", "_law_told_here", "_law_one"] ["_law_table_here", "_law_way"] (ab bM) := ⟨rfl, rfl, rfl, by decide +kernel, rfl, by decide +kernel, by decide +kernel⟩
theorem ok_l_told {f : Addr} {fd : FuncData} (Fu : Fun K "_law_told" "_law_told" bM f fd) (T : Txt K mg C tk) (L_Table_shuts : LnkM P w K mg base (fun _ => C) C "shuts" 1 ["self"] eV) (L_Table_rows : LnkM P w K mg base (fun _ => C) C "rows" 1 ["self"] fX) (L_Table_marks : LnkM P w K mg base (fun _ => C) C "marks" 1 ["self"] eX) (L_l_kinds : Lnk P w K mg base (fun _ => C) "_law_kinds" 2 ["_law_told_here"] h8) : FnOk P w K mg base CX0 3 f fd ["_law_table_here", "_law_way"] (spP (fun _ => C) cM) :=
 cZ (cl:=fun _=>C) (M:=t31) (fn:=fS) (kk:=2) Fu fI rfl rfl (fun cdv A outer s H E hr ρ=>(show GSs (cxOf CX0 P w K mg base _ _ (ab bM) f cdv A outer s H E).nox (fun _=>C) t31 (af bM) fS.body from
 (aa (cJ (bm (o:=.eq) (hu8 hr) rfl (ad (i:=1) rfl (Or.inl rfl) rfl rfl) ap) (aa (aT (i:=2) fI.nd rfl (Or.inl rfl) rfl (Or.inl rfl) (dw (ac rfl (eZ L_Table_marks (fun _=>rfl) T.cl hr (by decide) rfl (ad (i:=0) rfl (Or.inl rfl) rfl rfl)) (ac rfl (eZ L_Table_rows (fun _=>rfl) T.cl hr (by decide) rfl (ad (i:=0) rfl (Or.inl rfl) rfl rfl)) (ac rfl (eZ L_Table_shuts (fun _=>rfl) T.cl hr (by decide) rfl (ad (i:=0) rfl (Or.inl rfl) rfl rfl)) ah)))))
 ae) (aa (aT (i:=2) fI.nd rfl (Or.inl rfl) rfl (Or.inl rfl) (dw (ac rfl (eZ L_Table_shuts (fun _=>rfl) T.cl hr (by decide) rfl (ad (i:=0) rfl (Or.inl rfl) rfl rfl)) (ac rfl (eZ L_Table_rows (fun _=>rfl) T.cl hr (by decide) rfl (ad (i:=0) rfl (Or.inl rfl) rfl rfl)) (ac rfl (eZ L_Table_marks (fun _=>rfl) T.cl hr (by decide) rfl (ad (i:=0) rfl (Or.inl rfl) rfl rfl)) ah)))))
 (aa (gs_rvsL (cv (pe_bm0 PySem.F.plainAttrs_list PySem.F.slot_list_reverse PySem.F.type_list_reverse je (cD (i:=2) rfl (Or.inl rfl)))))
 ae)))
 (aa (cJ (fQ (gw_or (fi (bK (cp (id := "all") (fun ds z h => bi_all rfl h) rfl T.mall bt_all (by decide +kernel) rfl rfl rfl (ac rfl (fj rfl (bF rfl (by kernel_rfl)) (dX (by kernel_rfl)) (fun _ => rfl) (bt (ad (i := 2) rfl (Or.inl rfl) rfl rfl)) (fun X0 hX0 => by obtain ⟨C0, fp0, pins0, s0, H0, rfl⟩ := hX0; exact (aH (i := 3) fI.nd rfl (Or.inl rfl))) bd (Or.inl ⟨rfl, rfl⟩) (fun X0 hX0 => by obtain ⟨C0, fp0, pins0, s0, H0, rfl⟩ := hX0; exact (g_isi (T := "list") (isi_list K) rfl T.misinstance bS (by decide +kernel) rfl rfl T.mlist bt_list (by decide +kernel) rfl rfl rfl rfl (ad (i := 3) rfl (Or.inl rfl) rfl rfl)))) ah)) (fun _ => rfl))) (iz (fi (bK (aY L_l_kinds hr (by decide) rfl rfl rfl rfl (ac rfl (ad (i := 2) rfl (Or.inl rfl) rfl rfl) ah)) (fun _ => rfl)))))) (aa (bu g_non)
 ae) ae)
 (aa (bu (ad (i:=2) rfl (Or.inl rfl) rfl rfl))
 ae)))) ρ)
noncomputable abbrev aV:Stmt:=top 28
theorem gk : aJ ["_law_told_here", "_law_way", "_law_one"] ["_law_told_here", "_law_way"] (ab aV) := ⟨rfl, rfl, rfl, by decide +kernel, rfl, by decide +kernel, by decide +kernel⟩
theorem ok_l_changed {f : Addr} {fd : FuncData} (Fu : Fun K "_law_changed" "_law_changed" aV f fd) (T : Txt K mg C tk) : FnOk P w K mg base CX0 1 f fd ["_law_told_here", "_law_way"] spC :=
 chg_ok (kk:=0) Fu gk rfl rfl (fun cdv A outer s H E hr=>(show PSs (cxOf CX0 P w K mg base _ _ (ab aV) f cdv A outer s H E).nox (af aV) (tChg K) from
 (pss_one (ps_for PassesOwn.never rfl (pi_list (cD (i:=0) rfl (Or.inl rfl))) (aH (i:=2) gk.nd rfl (Or.inl rfl)) (fN (ps_if (pt_cmpR op_eq (cD (i:=1) rfl (Or.inl rfl)) pe_int rfl) (pss_one (cv (pe_bm0 PySem.F.plainAttrs_list PySem.F.slot_list_clear PySem.F.type_list_clear mt_clear (cD (i:=2) rfl (Or.inl rfl))))) pss_nil) (pss_one (cv (pe_bm PySem.F.plainAttrs_list PySem.F.slot_list_append PySem.F.type_list_append cn (cD (i:=2) rfl (Or.inl rfl)) (bI (pe_tup (bI pe_int (bI pe_int de))) de))))) (fun _=>rfl)))))
noncomputable abbrev d9:Stmt:=top 29
theorem bZ : aJ ["_law_script", "_law_head", "_law_marks", "_law_rows", "_law_shuts", "_law_pool", "_law_short", "_law_row_here", "_law_table_here", "_law_other", "_law_dues", "_law_way", "_law_asked", "_law_due", "_law_told_here", "_law_sign_here", "_law_rank_here"] ["_law_script"] (ab d9) := ⟨rfl, rfl, rfl, by decide +kernel, rfl, by decide +kernel, by decide +kernel⟩
theorem ok_law {f : Addr} {fd : FuncData} (Fu : Fun K "law" "law" d9 f fd) (T : Txt K mg C tk) (L_l_cell_at : Lnk P w K mg base (fun _ => C) "_law_cell_at" 1 ["_law_script", "_law_k"] dE) (L_l_table : Lnk P w K mg base (fun _ => C) "_law_table" 2 ["_law_cells"] hV) (L_Table_init : LnkI P w K mg base (fun _ => C) C "Table" 3 ["self", "marks", "rows", "shuts"] 0 dN) (L_l_turned : Lnk P w K mg base (fun _ => C) "_law_turned" 1 ["_law_row_here", "_law_number"] cB) (L_l_told : Lnk P w K mg base (fun _ => C) "_law_told" 3 ["_law_table_here", "_law_way"] cM) (L_l_changed : LnkC P w K mg base "_law_changed" 1 ["_law_told_here", "_law_way"]) (L_Table_pair : LnkM P w K mg base (fun _ => C) C "pair" 1 ["self", "one", "other"] hZ) (L_Table_row : LnkM P w K mg base (fun _ => C) C "row" 1 ["self", "sign"] r_trow) (L_Table_rank : LnkM P w K mg base (fun _ => C) C "rank" 1 ["self", "sign"] hU) : FnOk P w K mg base CX0 5 f fd ["_law_script"] (spP (fun _ => C) r_law) :=
 cZ (cl:=fun _=>C) (M:=t33) (fn:=gf) (kk:=4) Fu bZ rfl rfl (fun cdv A outer s H E hr ρ=>(show GSs (cxOf CX0 P w K mg base _ _ (ab d9) f cdv A outer s H E).nox (fun _=>C) t33 (af d9) gf.body from
 (aa (aT (i:=1) bZ.nd rfl (Or.inl rfl) rfl (Or.inl rfl) (aY L_l_cell_at hr (by decide) rfl rfl rfl rfl (ac rfl (ad (i:=0) rfl (Or.inl rfl) rfl rfl) (ac rfl ap ah))))
 (aa (gs_unp (is:=[2,3,4,5]) (pg_tup rfl (bW (aH (i:=2) bZ.nd rfl (Or.inl rfl)) (bW (aH (i:=3) bZ.nd rfl (Or.inl rfl)) (bW (aH (i:=4) bZ.nd rfl (Or.inl rfl)) (bW (aH (i:=5) bZ.nd rfl (Or.inl rfl)) ic)))) rfl rfl) rfl rfl rfl (aY L_l_table hr (by decide) rfl rfl rfl rfl (ac rfl (g_sl (ad (i:=0) rfl (Or.inl rfl) rfl rfl) (iB ap (by intro z; cases z)) (iB ap (by intro z; cases z))) ah)))
 (aa (jk rfl bZ.nd rfl (Or.inl rfl) (bF rfl (by kernel_rfl)) (dX (by kernel_rfl)) (fun _ => rfl) rfl (Or.inl rfl) (bt (ad (i := 3) rfl (Or.inl rfl) rfl rfl)) (fun X0 hX0 => by obtain ⟨C0, fp0, pins0, s0, H0, rfl⟩ := hX0; exact (aH (i := 7) bZ.nd rfl (Or.inl rfl))) bd (Or.inr ⟨_, rfl, fun X0 hX0 => by obtain ⟨C0, fp0, pins0, s0, H0, rfl⟩ := hX0; exact (bm (o := .eq) (hu8 hr) rfl (cp (id := "len") (fun ds z h => d0 h) rfl T.mlen dZ (by decide +kernel) rfl rfl rfl (ac rfl (g_ix (fun _ _ => rfl) (ad (i := 7) rfl (Or.inl rfl) rfl rfl) ap) ah)) ap)⟩) (fun X0 hX0 => by obtain ⟨C0, fp0, pins0, s0, H0, rfl⟩ := hX0; exact (ad (i := 7) rfl (Or.inl rfl) rfl rfl)))
 (aa (aT (i:=8) bZ.nd rfl (Or.inr rfl) rfl (Or.inl rfl) (g_makeL L_Table_init (fun _=>rfl) hr (by decide) rfl rfl rfl rfl (ac rfl (aY L_l_turned hr (by decide) rfl rfl rfl rfl (ac rfl (ad (i:=2) rfl (Or.inl rfl) rfl rfl) (ac rfl (aU (op:=.fdiv) (ad (i:=1) rfl (Or.inl rfl) rfl rfl) ap) ah))) (ac rfl (aY L_l_turned hr (by decide) rfl rfl rfl rfl (ac rfl (ad (i:=3) rfl (Or.inl rfl) rfl rfl) (ac rfl (aU (op:=.fdiv) (ad (i:=1) rfl (Or.inl rfl) rfl rfl) ap) ah))) (ac rfl (aY L_l_turned hr (by decide) rfl rfl rfl rfl (ac rfl (ad (i:=4) rfl (Or.inl rfl) rfl rfl) (ac rfl (aU (op:=.fdiv) (ad (i:=1) rfl (Or.inl rfl) rfl rfl) ap) ah))) ah)))))
 (aa (aT (i:=9) bZ.nd rfl (Or.inl rfl) rfl (Or.inl rfl) (g_makeL L_Table_init (fun _=>rfl) hr (by decide) rfl rfl rfl rfl (ac rfl (aY L_l_turned hr (by decide) rfl rfl rfl rfl (ac rfl (ad (i:=2) rfl (Or.inl rfl) rfl rfl) (ac rfl (aU (op:=.fdiv) (ad (i:=1) rfl (Or.inl rfl) rfl rfl) ap) ah))) (ac rfl (aY L_l_turned hr (by decide) rfl rfl rfl rfl (ac rfl (ad (i:=6) rfl (Or.inl rfl) rfl rfl) (ac rfl (aU (op:=.fdiv) (ad (i:=1) rfl (Or.inl rfl) rfl rfl) ap) ah))) (ac rfl (dw ah) ah)))))
 (aa (aT (i := 10) bZ.nd rfl (Or.inl rfl) rfl (Or.inl rfl) (dw (ac rfl (dw (ac rfl (cp (id := "sorted") (fun ds z h => gS h) rfl T.msorted bG (by decide +kernel) rfl rfl rfl (ac rfl (ad (i := 2) rfl (Or.inl rfl) rfl rfl) ah)) (ac rfl (cp (id := "sorted") (fun ds z h => gS h) rfl T.msorted bG (by decide +kernel) rfl rfl rfl (ac rfl (ad (i := 3) rfl (Or.inl rfl) rfl rfl) ah)) (ac rfl (cp (id := "sorted") (fun ds z h => dI rfl h) rfl T.msorted bG (by decide +kernel) rfl rfl rfl (ac rfl (ad (i := 4) rfl (Or.inl rfl) rfl rfl) ah)) ah)))) (ac rfl (dw (ac rfl (cp (id := "sorted") (fun ds z h => gS h) rfl T.msorted bG (by decide +kernel) rfl rfl rfl (ac rfl (ad (i := 2) rfl (Or.inl rfl) rfl rfl) ah)) (ac rfl (cp (id := "sorted") (fun ds z h => gS h) rfl T.msorted bG (by decide +kernel) rfl rfl rfl (ac rfl (ad (i := 6) rfl (Or.inl rfl) rfl rfl) ah)) (ac rfl (dw ah) ah)))) ah))))
 (aa (eE PassesOwn.never rfl (fun _=>rfl) (bt (dw (ac rfl ap (ac rfl ap (ac rfl (aU (op:=.mod) (ad (i:=1) rfl (Or.inl rfl) rfl rfl) ap) ah))))) (aH (i:=11) bZ.nd rfl (Or.inl rfl)) bd (aa (eE PassesOwn.never rfl (fun _=>rfl) (gi_zip rfl T.mzip bt_zip rfl rfl rfl (dw (ac rfl (ad (i:=8) rfl (Or.inr (Or.inl rfl)) rfl rfl) (ac rfl (ad (i:=9) rfl (Or.inl rfl) rfl rfl) ah))) (ad (i:=10) rfl (Or.inl rfl) rfl rfl)) (pg_tup rfl (bW (aH (i:=12) bZ.nd rfl (Or.inl rfl)) (bW (aH (i:=13) bZ.nd rfl (Or.inl rfl)) ic)) rfl rfl) (gR (tg:=[12,13])) (aa (aT (i:=14) bZ.nd rfl (Or.inl rfl) rfl (Or.inl rfl) (aY L_l_told hr (by decide) rfl rfl rfl rfl (ac rfl (ad (i:=12) rfl (Or.inl rfl) rfl rfl) (ac rfl (ad (i:=11) rfl (Or.inl rfl) rfl rfl) ah))))
 (aa (cJ (fQ (gw_or (bm (o:=.isN) (hu8 hr) rfl (ad (i:=14) rfl (Or.inl rfl) rfl rfl) g_non) (iz (bm (o:=.ne) (hu8 hr) rfl (ad (i:=14) rfl (Or.inl rfl) rfl rfl) (ad (i:=13) rfl (Or.inl rfl) rfl rfl))))) (aa (bu g_bl)
 ae) ae)
 (aa (gs_chg (i:=14) L_l_changed hr (by decide) rfl rfl rfl rfl rfl rfl (cD (i:=14) rfl (Or.inl rfl)) (aU (op:=.mod) (aU (op:=.fdiv) (ad (i:=1) rfl (Or.inl rfl) rfl rfl) ap) ap))
 ae))))
 ae))
 (aa (eE PassesOwn.never rfl (fun _ => rfl) (bt (ad (i := 3) rfl (Or.inl rfl) rfl rfl)) (pg_tup rfl (bW (aH (i := 15) bZ.nd rfl (Or.inl rfl)) (bW (aH (i := 7) bZ.nd rfl (Or.inl rfl)) ic)) rfl rfl) (gR (tg := [15, 7])) (aa (cJ (fQ (gw_or (bm (o := .ne) (hu8 hr) rfl (g_methL L_Table_row (fun _ => rfl) T.cl hr (by decide) rfl rfl rfl (ad (i := 8) rfl (Or.inr (Or.inl rfl)) rfl rfl) (ac rfl (ad (i := 15) rfl (Or.inl rfl) rfl rfl) ah)) (ad (i := 7) rfl (Or.inl rfl) rfl rfl)) (iz (fQ (gp (bm (o := .eq) (hu8 hr) rfl (cp (id := "len") (fun ds z h => d0 h) rfl T.mlen dZ (by decide +kernel) rfl rfl rfl (ac rfl (ad (i := 7) rfl (Or.inl rfl) rfl rfl) ah)) ap) (gp (bm (o := .nmem) (hu8 hr) rfl (ad (i := 15) rfl (Or.inl rfl) rfl rfl) (ad (i := 4) rfl (Or.inl rfl) rfl rfl)) (fD (bm (o := .ne) (hu8 hr) rfl (g_methL L_Table_pair (fun _ => rfl) T.cl hr (by decide) rfl rfl rfl (ad (i := 8) rfl (Or.inr (Or.inl rfl)) rfl rfl) (ac rfl (g_ix (fun _ _ => rfl) (ad (i := 7) rfl (Or.inl rfl) rfl rfl) ap) (ac rfl (g_ix (fun _ _ => rfl) (ad (i := 7) rfl (Or.inl rfl) rfl rfl) ap) ah))) (ad (i := 15) rfl (Or.inl rfl) rfl rfl))))))))) (aa (bu g_bl)
 ae) ae)
 ae))
 (aa (cJ (fi (bK (cp (id := "all") (fun ds z h => bi_all rfl h) rfl T.mall bt_all (by decide +kernel) rfl rfl rfl (ac rfl (fj rfl (bF rfl (by kernel_rfl)) (dX (by kernel_rfl)) (fun _ => rfl) (bt (ad (i := 2) rfl (Or.inl rfl) rfl rfl)) (fun X0 hX0 => by obtain ⟨C0, fp0, pins0, s0, H0, rfl⟩ := hX0; exact (pg_tup rfl (bW (aH (i := 15) bZ.nd rfl (Or.inl rfl)) (bW (aH (i := 16) bZ.nd rfl (Or.inl rfl)) ic)) rfl rfl)) (gR (tg := [15, 16])) (Or.inl ⟨rfl, rfl⟩) (fun X0 hX0 => by obtain ⟨C0, fp0, pins0, s0, H0, rfl⟩ := hX0; exact (g_cmpE (o := .eq) (hu8 hr) rfl (g_methL L_Table_rank (fun _ => rfl) T.cl hr (by decide) rfl rfl rfl (ad (i := 8) rfl (Or.inr (Or.inl rfl)) rfl rfl) (ac rfl (ad (i := 15) rfl (Or.inl rfl) rfl rfl) ah)) (ad (i := 16) rfl (Or.inl rfl) rfl rfl)))) ah)) (fun _ => rfl))) (aa (bu g_bl)
 ae) ae)
 (aa (aT (i:=14) bZ.nd rfl (Or.inl rfl) rfl (Or.inl rfl) (aY L_l_told hr (by decide) rfl rfl rfl rfl (ac rfl (ad (i:=8) rfl (Or.inr (Or.inl rfl)) rfl rfl) (ac rfl ap ah))))
 (aa (bu (g_and (g_cmpE (o:=.notN) (hu8 hr) rfl (ad (i:=14) rfl (Or.inl rfl) rfl rfl) g_non) (g_one (g_cmpE (o:=.eq) (hu8 hr) rfl (aY L_l_told hr (by decide) rfl rfl rfl rfl (ac rfl (g_makeL L_Table_init (fun _=>rfl) hr (by decide) rfl rfl rfl rfl (ac rfl (g_ix (fun _ _=>rfl) (ad (i:=14) rfl (Or.inl rfl) rfl rfl) ap) (ac rfl (g_ix (fun _ _=>rfl) (ad (i:=14) rfl (Or.inl rfl) rfl rfl) ap) (ac rfl (g_ix (fun _ _=>rfl) (ad (i:=14) rfl (Or.inl rfl) rfl rfl) ap) ah)))) (ac rfl ap ah))) (g_ix (fun _ _=>rfl) (ad (i:=10) rfl (Or.inl rfl) rfl rfl) ap)))))
 ae)))))))))))) ρ)
end
end K13
namespace K13
open PySem PySem.Spec PyProof.Rows L2 Vi K12 K11
open PySem (Str)
noncomputable def noLst (K : PySem.W.Frag) : Bool := K.all fun p => match p.2.cls with | .type t => !(t == "list") | _ => true
theorem noLst_at {a : Addr} {o : Obj} : ∀ {K : PySem.W.Frag}, noLst K = true → K.lookup a = some o → o.cls ≠ .type "list"
 | [],_,h=>by cases h
 | (b,x)::r,hn,h=>by
  have hn : ((match x.cls with | .type t => !(t == "list") | _ => true) && noLst r) = true := hn
  rw [Bool.and_eq_true] at hn
  rw [List.lookup_cons] at h
  split at h
  ·cases h
   intro z
   rw [z] at hn
   exact absurd hn.1 (by decide)
  ·exact noLst_at hn.2 h
noncomputable def spL (K:PySem.W.Frag):Sp:=fun vs H Q _=>∃ (a:Addr) (ns:List Int),vs=[.ref a]∧SqL K H a (ns.map V.int)∧ns.length≤63∧∀ H',Q (.bl true) H'
theorem law_sp {K:PySem.W.Frag} {C:Addr} (hK:noLst K=true):∀ vs H Q E,spL K vs H Q E→spP (fun _=>C) r_law vs H Q E:=by
 rintro vs H Q E ⟨a,ns,rfl,hS,hl,q⟩
 refine ⟨[.lst (ns.map D.int)],[a],.bl true, ?_,law_true ns,fun v H' fp' _ r _ _=>?_⟩
 ·have h0:H a=some (.lst (ns.map V.int))∨∃ o,H a=some (.frz o (.lst (ns.map V.int))):=by
   rcases hS with h | ⟨o,its,n,h,hc,_⟩
   ·exact h
   ·exact absurd hc (noLst_at hK h)
  unfold RepL
  refine ⟨.ref a,[],[a],[],rfl,rfl, ?_,⟨rfl,rfl⟩⟩
  unfold Rep
  exact ⟨a,ns.map V.int,[],rfl,rfl,repL_ints ns,h0⟩
 ·rw [r.1]
  exact q H'
theorem usS {us:List Value} {n:Nat} (h:us.length=n+1):∃ x r,us=x::r∧r.length=n:=by
 cases us with
 | nil=>injection h
 | cons x r=>exact ⟨x,r,rfl,Nat.succ.inj h⟩
theorem us1 {us:List Value} (h:us.length=1):∃ x0,us=[x0]:=by
 obtain ⟨x,r,rfl,g⟩:=usS h
 exact ⟨x,by rw [List.eq_nil_of_length_eq_zero g]⟩
theorem us2 {us:List Value} (h:us.length=2):∃ x0 x1,us=[x0,x1]:=by
 obtain ⟨x0,r,rfl,g⟩:=usS h
 obtain ⟨x1,rfl⟩:=us1 g
 exact ⟨x0,x1,rfl⟩
theorem us3 {us:List Value} (h:us.length=3):∃ x0 x1 x2,us=[x0,x1,x2]:=by
 obtain ⟨x0,r,rfl,g⟩:=usS h
 obtain ⟨x1,x2,rfl⟩:=us2 g
 exact ⟨x0,x1,x2,rfl⟩
theorem us4 {us:List Value} (h:us.length=4):∃ x0 x1 x2 x3,us=[x0,x1,x2,x3]:=by
 obtain ⟨x0,r,rfl,g⟩:=usS h
 obtain ⟨x1,x2,x3,rfl⟩:=us3 g
 exact ⟨x0,x1,x2,x3,rfl⟩
theorem bd_repeated (kV doc pm : Value) (an : Option Addr) (cdv ct : Value) (us : List Value) (hl : us.length = (["signs"] : List Str).length) : bindArgs (PySem.W.fnOf "repeated" "repeated" (am bg) (af bg) (ab bg) .none kV doc pm an cdv ct) ⟨us, []⟩ = pure ((["signs"] : List Str).zip us) := by
 obtain ⟨x0,rfl⟩:=us1 hl
 rfl
theorem iM (kV doc pm : Value) (an : Option Addr) (cdv ct : Value) (us : List Value) (hl : us.length = (["marks", "rows", "shuts"] : List Str).length) : bindArgs (PySem.W.fnOf "refuse_twice" "refuse_twice" (am ax) (af ax) (ab ax) .none kV doc pm an cdv ct) ⟨us, []⟩ = pure ((["marks", "rows", "shuts"] : List Str).zip us) := by
 obtain ⟨x0,x1,x2,rfl⟩:=us3 hl
 rfl
theorem gi (kV doc pm : Value) (an : Option Addr) (cdv ct : Value) (us : List Value) (hl : us.length = (["row_by_sign", "shuts"] : List Str).length) : bindArgs (PySem.W.fnOf "refuse_no_pair" "refuse_no_pair" (am av) (af av) (ab av) .none kV doc pm an cdv ct) ⟨us, []⟩ = pure ((["row_by_sign", "shuts"] : List Str).zip us) := by
 obtain ⟨x0,x1,rfl⟩:=us2 hl
 rfl
theorem gC (kV doc pm : Value) (an : Option Addr) (cdv ct : Value) (us : List Value) (hl : us.length = (["row_by_sign", "shut_by_sign"] : List Str).length) : bindArgs (PySem.W.fnOf "signs_by_pair" "signs_by_pair" (am aw) (af aw) (ab aw) .none kV doc pm an cdv ct) ⟨us, []⟩ = pure ((["row_by_sign", "shut_by_sign"] : List Str).zip us) := by
 obtain ⟨x0,x1,rfl⟩:=us2 hl
 rfl
theorem iN (kV doc pm : Value) (an : Option Addr) (cdv ct : Value) (us : List Value) (hl : us.length = (["row_by_sign"] : List Str).length) : bindArgs (PySem.W.fnOf "full_lengths" "full_lengths" (am ay) (af ay) (ab ay) .none kV doc pm an cdv ct) ⟨us, []⟩ = pure ((["row_by_sign"] : List Str).zip us) := by
 obtain ⟨x0,rfl⟩:=us1 hl
 rfl
theorem fU (kV doc pm : Value) (an : Option Addr) (cdv ct : Value) (us : List Value) (hl : us.length = (["lengths"] : List Str).length) : bindArgs (PySem.W.fnOf "refuse_too_long" "refuse_too_long" (am aq) (af aq) (ab aq) .none kV doc pm an cdv ct) ⟨us, []⟩ = pure ((["lengths"] : List Str).zip us) := by
 obtain ⟨x0,rfl⟩:=us1 hl
 rfl
theorem kj (kV doc pm : Value) (an : Option Addr) (cdv ct : Value) (us : List Value) (hl : us.length = (["self", "marks", "rows", "shuts"] : List Str).length) : bindArgs (PySem.W.fnOf "__init__" "Table.__init__" (am aP) (af aP) (ab aP) .none kV doc pm an cdv ct) ⟨us, []⟩ = pure ((["self", "marks", "rows", "shuts"] : List Str).zip us) := by
 obtain ⟨x0,x1,x2,x3,rfl⟩:=us4 hl
 rfl
theorem kh (kV doc pm : Value) (an : Option Addr) (cdv ct : Value) (us : List Value) (hl : us.length = (["self", "sign"] : List Str).length) : bindArgs (PySem.W.fnOf "rank" "Table.rank" (am aN) (af aN) (ab aN) .none kV doc pm an cdv ct) ⟨us, []⟩ = pure ((["self", "sign"] : List Str).zip us) := by
 obtain ⟨x0,x1,rfl⟩:=us2 hl
 rfl
theorem bd_Table_row (kV doc pm : Value) (an : Option Addr) (cdv ct : Value) (us : List Value) (hl : us.length = (["self", "sign"] : List Str).length) : bindArgs (PySem.W.fnOf "row" "Table.row" (am aX) (af aX) (ab aX) .none kV doc pm an cdv ct) ⟨us, []⟩ = pure ((["self", "sign"] : List Str).zip us) := by
 obtain ⟨x0,x1,rfl⟩:=us2 hl
 rfl
theorem ki (kV doc pm : Value) (an : Option Addr) (cdv ct : Value) (us : List Value) (hl : us.length = (["self", "one", "other"] : List Str).length) : bindArgs (PySem.W.fnOf "pair" "Table.pair" (am aO) (af aO) (ab aO) .none kV doc pm an cdv ct) ⟨us, []⟩ = pure ((["self", "one", "other"] : List Str).zip us) := by
 refine zz fun P_ k_=>?_
 obtain ⟨x0,x1,x2,rfl⟩:=us3 hl
 refine k_ ?_
 rfl
theorem i4 (kV doc pm : Value) (an : Option Addr) (cdv ct : Value) (us : List Value) (hl : us.length = (["self"] : List Str).length) : bindArgs (PySem.W.fnOf "marks" "Table.marks" (am aG) (af aG) (ab aG) .none kV doc pm an cdv ct) ⟨us, []⟩ = pure ((["self"] : List Str).zip us) := by
 obtain ⟨x0,rfl⟩:=us1 hl
 rfl
theorem kg (kV doc pm : Value) (an : Option Addr) (cdv ct : Value) (us : List Value) (hl : us.length = (["self"] : List Str).length) : bindArgs (PySem.W.fnOf "rows" "Table.rows" (am aM) (af aM) (ab aM) .none kV doc pm an cdv ct) ⟨us, []⟩ = pure ((["self"] : List Str).zip us) := by
 obtain ⟨x0,rfl⟩:=us1 hl
 rfl
theorem iZ (kV doc pm : Value) (an : Option Addr) (cdv ct : Value) (us : List Value) (hl : us.length = (["self"] : List Str).length) : bindArgs (PySem.W.fnOf "shuts" "Table.shuts" (am aE) (af aE) (ab aE) .none kV doc pm an cdv ct) ⟨us, []⟩ = pure ((["self"] : List Str).zip us) := by
 obtain ⟨x0,rfl⟩:=us1 hl
 rfl
theorem bd_l_cell_at (kV doc pm : Value) (an : Option Addr) (cdv ct : Value) (us : List Value) (hl : us.length = (["_law_script", "_law_k"] : List Str).length) : bindArgs (PySem.W.fnOf "_law_cell_at" "_law_cell_at" (am aW) (af aW) (ab aW) .none kV doc pm an cdv ct) ⟨us, []⟩ = pure ((["_law_script", "_law_k"] : List Str).zip us) := by
 obtain ⟨x0,x1,rfl⟩:=us2 hl
 rfl
theorem bd_l_whole (kV doc pm : Value) (an : Option Addr) (cdv ct : Value) (us : List Value) (hl : us.length = (["_law_found"] : List Str).length) : bindArgs (PySem.W.fnOf "_law_whole" "_law_whole" (am bx) (af bx) (ab bx) .none kV doc pm an cdv ct) ⟨us, []⟩ = pure ((["_law_found"] : List Str).zip us) := by
 obtain ⟨x0,rfl⟩:=us1 hl
 rfl
theorem bd_l_sign (kV doc pm : Value) (an : Option Addr) (cdv ct : Value) (us : List Value) (hl : us.length = (["_law_cell", "_law_pool"] : List Str).length) : bindArgs (PySem.W.fnOf "_law_sign" "_law_sign" (am bN) (af bN) (ab bN) .none kV doc pm an cdv ct) ⟨us, []⟩ = pure ((["_law_cell", "_law_pool"] : List Str).zip us) := by
 obtain ⟨x0,x1,rfl⟩:=us2 hl
 rfl
theorem bd_l_rank (kV doc pm : Value) (an : Option Addr) (cdv ct : Value) (us : List Value) (hl : us.length = (["_law_number"] : List Str).length) : bindArgs (PySem.W.fnOf "_law_rank" "_law_rank" (am bO) (af bO) (ab bO) .none kV doc pm an cdv ct) ⟨us, []⟩ = pure ((["_law_number"] : List Str).zip us) := by
 obtain ⟨x0,rfl⟩:=us1 hl
 rfl
theorem bd_l_row (kV doc pm : Value) (an : Option Addr) (cdv ct : Value) (us : List Value) (hl : us.length = (["_law_number", "_law_pool"] : List Str).length) : bindArgs (PySem.W.fnOf "_law_row" "_law_row" (am cf) (af cf) (ab cf) .none kV doc pm an cdv ct) ⟨us, []⟩ = pure ((["_law_number", "_law_pool"] : List Str).zip us) := by
 obtain ⟨x0,x1,rfl⟩:=us2 hl
 rfl
theorem bd_l_table (kV doc pm : Value) (an : Option Addr) (cdv ct : Value) (us : List Value) (hl : us.length = (["_law_cells"] : List Str).length) : bindArgs (PySem.W.fnOf "_law_table" "_law_table" (am bz) (af bz) (ab bz) .none kV doc pm an cdv ct) ⟨us, []⟩ = pure ((["_law_cells"] : List Str).zip us) := by
 obtain ⟨x0,rfl⟩:=us1 hl
 rfl
theorem bd_l_turned (kV doc pm : Value) (an : Option Addr) (cdv ct : Value) (us : List Value) (hl : us.length = (["_law_row_here", "_law_number"] : List Str).length) : bindArgs (PySem.W.fnOf "_law_turned" "_law_turned" (am bh) (af bh) (ab bh) .none kV doc pm an cdv ct) ⟨us, []⟩ = pure ((["_law_row_here", "_law_number"] : List Str).zip us) := by
 obtain ⟨x0,x1,rfl⟩:=us2 hl
 rfl
theorem bd_l_kinds (kV doc pm : Value) (an : Option Addr) (cdv ct : Value) (us : List Value) (hl : us.length = (["_law_told_here"] : List Str).length) : bindArgs (PySem.W.fnOf "_law_kinds" "_law_kinds" (am bA) (af bA) (ab bA) .none kV doc pm an cdv ct) ⟨us, []⟩ = pure ((["_law_told_here"] : List Str).zip us) := by
 obtain ⟨x0,rfl⟩:=us1 hl
 rfl
theorem bd_l_told (kV doc pm : Value) (an : Option Addr) (cdv ct : Value) (us : List Value) (hl : us.length = (["_law_table_here", "_law_way"] : List Str).length) : bindArgs (PySem.W.fnOf "_law_told" "_law_told" (am bM) (af bM) (ab bM) .none kV doc pm an cdv ct) ⟨us, []⟩ = pure ((["_law_table_here", "_law_way"] : List Str).zip us) := by
 obtain ⟨x0,x1,rfl⟩:=us2 hl
 rfl
theorem bd_l_changed (kV doc pm : Value) (an : Option Addr) (cdv ct : Value) (us : List Value) (hl : us.length = (["_law_told_here", "_law_way"] : List Str).length) : bindArgs (PySem.W.fnOf "_law_changed" "_law_changed" (am aV) (af aV) (ab aV) .none kV doc pm an cdv ct) ⟨us, []⟩ = pure ((["_law_told_here", "_law_way"] : List Str).zip us) := by
 obtain ⟨x0,x1,rfl⟩:=us2 hl
 rfl
theorem all_mk {l : PySem.W.OpenLaw} {w : World} {K : PySem.W.Frag} {h : Heap} {mg : Str → Option Value} {fa C f1 f2 f3 f4 f5 f6 f7 f8 f9 f10 f11 f12 f13 f14 f15 f16 f17 f18 f19 f20 f21 f22 f23 f24 : Addr} {tk : Tok} (X : K.In h) (G : h.Ns mainGlobals mg) (hfa : mg "law" = some (.ref fa)) (hK : noLst K = true)
  {od1 an1 od2 an2 od3 an3 od4 an4 od5 an5 od6 an6 od7 an7 od8 an8 od9 an9 od10 an10 od11 an11 od12 an12 od13 an13 od14 an14 od15 an15 od16 an16 od17 an17 od18 an18 od19 an19 od20 an20 od21 an21 od22 an22 od23 an23 od24 an24:Option Addr} {sl1 sl2 sl3 sl4 sl5 sl6 sl7 sl8 sl9 sl10 sl11 sl12 sl13 sl14 sl15 sl16 sl17 sl18 sl19 sl20 sl21 sl22 sl23 sl24:Array (Option Value)} {oc1 kV1 dc1 pm1 cd1 ct1 oc2 kV2 dc2 pm2 cd2 ct2 oc3 kV3 dc3 pm3 cd3 ct3 oc4 kV4 dc4 pm4 cd4 ct4 oc5 kV5 dc5 pm5 cd5 ct5 oc6 kV6 dc6 pm6 cd6 ct6 oc7 kV7 dc7 pm7 cd7 ct7 oc8 kV8 dc8 pm8 cd8 ct8 oc9 kV9 dc9 pm9 cd9 ct9 oc10 kV10 dc10 pm10 cd10 ct10 oc11 kV11 dc11 pm11 cd11 ct11 oc12 kV12 dc12 pm12 cd12 ct12 oc13 kV13 dc13 pm13 cd13 ct13 oc14 kV14 dc14 pm14 cd14 ct14 oc15 kV15 dc15 pm15 cd15 ct15 oc16 kV16 dc16 pm16 cd16 ct16 oc17 kV17 dc17 pm17 cd17 ct17 oc18 kV18 dc18 pm18 cd18 ct18 oc19 kV19 dc19 pm19 cd19 ct19 oc20 kV20 dc20 pm20 cd20 ct20 oc21 kV21 dc21 pm21 cd21 ct21 oc22 kV22 dc22 pm22 cd22 ct22 oc23 kV23 dc23 pm23 cd23 ct23 oc24 kV24 dc24 pm24 cd24 ct24:Value}
  (aC : PySem.W.nsIn K mainGlobals "Table" = some (some (.ref C)))
  (a1 : PySem.W.nsIn K mainGlobals "repeated" = some (some (.ref f1)))
  (l1 : K.lookup f1 = some ⟨oc1, od1, .func (PySem.W.fnOf "repeated" "repeated" (am bg) (af bg) (ab bg) .none kV1 dc1 pm1 an1 cd1 ct1), sl1⟩)
  (c1 : PySem.W.codeIn K cd1 "repeated" = true)
  (k1:PySem.W.keepIn K (.ref f1)=true)
  (a2 : PySem.W.nsIn K mainGlobals "refuse_twice" = some (some (.ref f2)))
  (l2 : K.lookup f2 = some ⟨oc2, od2, .func (PySem.W.fnOf "refuse_twice" "refuse_twice" (am ax) (af ax) (ab ax) .none kV2 dc2 pm2 an2 cd2 ct2), sl2⟩)
  (c2 : PySem.W.codeIn K cd2 "refuse_twice" = true)
  (k2:PySem.W.keepIn K (.ref f2)=true)
  (a3 : PySem.W.nsIn K mainGlobals "refuse_no_pair" = some (some (.ref f3)))
  (l3 : K.lookup f3 = some ⟨oc3, od3, .func (PySem.W.fnOf "refuse_no_pair" "refuse_no_pair" (am av) (af av) (ab av) .none kV3 dc3 pm3 an3 cd3 ct3), sl3⟩)
  (c3 : PySem.W.codeIn K cd3 "refuse_no_pair" = true)
  (k3:PySem.W.keepIn K (.ref f3)=true)
  (a4 : PySem.W.nsIn K mainGlobals "signs_by_pair" = some (some (.ref f4)))
  (l4 : K.lookup f4 = some ⟨oc4, od4, .func (PySem.W.fnOf "signs_by_pair" "signs_by_pair" (am aw) (af aw) (ab aw) .none kV4 dc4 pm4 an4 cd4 ct4), sl4⟩)
  (c4 : PySem.W.codeIn K cd4 "signs_by_pair" = true)
  (k4:PySem.W.keepIn K (.ref f4)=true)
  (a5 : PySem.W.nsIn K mainGlobals "full_lengths" = some (some (.ref f5)))
  (l5 : K.lookup f5 = some ⟨oc5, od5, .func (PySem.W.fnOf "full_lengths" "full_lengths" (am ay) (af ay) (ab ay) .none kV5 dc5 pm5 an5 cd5 ct5), sl5⟩)
  (c5 : PySem.W.codeIn K cd5 "full_lengths" = true)
  (k5:PySem.W.keepIn K (.ref f5)=true)
  (a6 : PySem.W.nsIn K mainGlobals "refuse_too_long" = some (some (.ref f6)))
  (l6 : K.lookup f6 = some ⟨oc6, od6, .func (PySem.W.fnOf "refuse_too_long" "refuse_too_long" (am aq) (af aq) (ab aq) .none kV6 dc6 pm6 an6 cd6 ct6), sl6⟩)
  (c6 : PySem.W.codeIn K cd6 "refuse_too_long" = true)
  (k6:PySem.W.keepIn K (.ref f6)=true)
  (a7 : PySem.W.findIn K (.ref C) "__init__" = some (some (.ref f7)))
  (i7:PySem.W.isFn K (.ref f7)=true)
  (l7 : K.lookup f7 = some ⟨oc7, od7, .func (PySem.W.fnOf "__init__" "Table.__init__" (am aP) (af aP) (ab aP) .none kV7 dc7 pm7 an7 cd7 ct7), sl7⟩)
  (c7 : PySem.W.codeIn K cd7 "Table.__init__" = true)
  (k7:PySem.W.keepIn K (.ref f7)=true)
  (a8 : PySem.W.findIn K (.ref C) "rank" = some (some (.ref f8)))
  (i8:PySem.W.isFn K (.ref f8)=true)
  (l8 : K.lookup f8 = some ⟨oc8, od8, .func (PySem.W.fnOf "rank" "Table.rank" (am aN) (af aN) (ab aN) .none kV8 dc8 pm8 an8 cd8 ct8), sl8⟩)
  (c8 : PySem.W.codeIn K cd8 "Table.rank" = true)
  (k8:PySem.W.keepIn K (.ref f8)=true)
  (a9 : PySem.W.findIn K (.ref C) "row" = some (some (.ref f9)))
  (i9:PySem.W.isFn K (.ref f9)=true)
  (l9 : K.lookup f9 = some ⟨oc9, od9, .func (PySem.W.fnOf "row" "Table.row" (am aX) (af aX) (ab aX) .none kV9 dc9 pm9 an9 cd9 ct9), sl9⟩)
  (c9 : PySem.W.codeIn K cd9 "Table.row" = true)
  (k9:PySem.W.keepIn K (.ref f9)=true)
  (a10 : PySem.W.findIn K (.ref C) "pair" = some (some (.ref f10)))
  (i10:PySem.W.isFn K (.ref f10)=true)
  (l10 : K.lookup f10 = some ⟨oc10, od10, .func (PySem.W.fnOf "pair" "Table.pair" (am aO) (af aO) (ab aO) .none kV10 dc10 pm10 an10 cd10 ct10), sl10⟩)
  (c10 : PySem.W.codeIn K cd10 "Table.pair" = true)
  (k10:PySem.W.keepIn K (.ref f10)=true)
  (a11 : PySem.W.findIn K (.ref C) "marks" = some (some (.ref f11)))
  (i11:PySem.W.isFn K (.ref f11)=true)
  (l11 : K.lookup f11 = some ⟨oc11, od11, .func (PySem.W.fnOf "marks" "Table.marks" (am aG) (af aG) (ab aG) .none kV11 dc11 pm11 an11 cd11 ct11), sl11⟩)
  (c11 : PySem.W.codeIn K cd11 "Table.marks" = true)
  (k11:PySem.W.keepIn K (.ref f11)=true)
  (a12 : PySem.W.findIn K (.ref C) "rows" = some (some (.ref f12)))
  (i12:PySem.W.isFn K (.ref f12)=true)
  (l12 : K.lookup f12 = some ⟨oc12, od12, .func (PySem.W.fnOf "rows" "Table.rows" (am aM) (af aM) (ab aM) .none kV12 dc12 pm12 an12 cd12 ct12), sl12⟩)
  (c12 : PySem.W.codeIn K cd12 "Table.rows" = true)
  (k12:PySem.W.keepIn K (.ref f12)=true)
  (a13 : PySem.W.findIn K (.ref C) "shuts" = some (some (.ref f13)))
  (i13:PySem.W.isFn K (.ref f13)=true)
  (l13 : K.lookup f13 = some ⟨oc13, od13, .func (PySem.W.fnOf "shuts" "Table.shuts" (am aE) (af aE) (ab aE) .none kV13 dc13 pm13 an13 cd13 ct13), sl13⟩)
  (c13 : PySem.W.codeIn K cd13 "Table.shuts" = true)
  (k13:PySem.W.keepIn K (.ref f13)=true)
  (a14 : PySem.W.nsIn K mainGlobals "_law_cell_at" = some (some (.ref f14)))
  (l14 : K.lookup f14 = some ⟨oc14, od14, .func (PySem.W.fnOf "_law_cell_at" "_law_cell_at" (am aW) (af aW) (ab aW) .none kV14 dc14 pm14 an14 cd14 ct14), sl14⟩)
  (c14 : PySem.W.codeIn K cd14 "_law_cell_at" = true)
  (k14:PySem.W.keepIn K (.ref f14)=true)
  (a15 : PySem.W.nsIn K mainGlobals "_law_whole" = some (some (.ref f15)))
  (l15 : K.lookup f15 = some ⟨oc15, od15, .func (PySem.W.fnOf "_law_whole" "_law_whole" (am bx) (af bx) (ab bx) .none kV15 dc15 pm15 an15 cd15 ct15), sl15⟩)
  (c15 : PySem.W.codeIn K cd15 "_law_whole" = true)
  (k15:PySem.W.keepIn K (.ref f15)=true)
  (a16 : PySem.W.nsIn K mainGlobals "_law_sign" = some (some (.ref f16)))
  (l16 : K.lookup f16 = some ⟨oc16, od16, .func (PySem.W.fnOf "_law_sign" "_law_sign" (am bN) (af bN) (ab bN) .none kV16 dc16 pm16 an16 cd16 ct16), sl16⟩)
  (c16 : PySem.W.codeIn K cd16 "_law_sign" = true)
  (k16:PySem.W.keepIn K (.ref f16)=true)
  (a17 : PySem.W.nsIn K mainGlobals "_law_rank" = some (some (.ref f17)))
  (l17 : K.lookup f17 = some ⟨oc17, od17, .func (PySem.W.fnOf "_law_rank" "_law_rank" (am bO) (af bO) (ab bO) .none kV17 dc17 pm17 an17 cd17 ct17), sl17⟩)
  (c17 : PySem.W.codeIn K cd17 "_law_rank" = true)
  (k17:PySem.W.keepIn K (.ref f17)=true)
  (a18 : PySem.W.nsIn K mainGlobals "_law_row" = some (some (.ref f18)))
  (l18 : K.lookup f18 = some ⟨oc18, od18, .func (PySem.W.fnOf "_law_row" "_law_row" (am cf) (af cf) (ab cf) .none kV18 dc18 pm18 an18 cd18 ct18), sl18⟩)
  (c18 : PySem.W.codeIn K cd18 "_law_row" = true)
  (k18:PySem.W.keepIn K (.ref f18)=true)
  (a19 : PySem.W.nsIn K mainGlobals "_law_table" = some (some (.ref f19)))
  (l19 : K.lookup f19 = some ⟨oc19, od19, .func (PySem.W.fnOf "_law_table" "_law_table" (am bz) (af bz) (ab bz) .none kV19 dc19 pm19 an19 cd19 ct19), sl19⟩)
  (c19 : PySem.W.codeIn K cd19 "_law_table" = true)
  (k19:PySem.W.keepIn K (.ref f19)=true)
  (a20 : PySem.W.nsIn K mainGlobals "_law_turned" = some (some (.ref f20)))
  (l20 : K.lookup f20 = some ⟨oc20, od20, .func (PySem.W.fnOf "_law_turned" "_law_turned" (am bh) (af bh) (ab bh) .none kV20 dc20 pm20 an20 cd20 ct20), sl20⟩)
  (c20 : PySem.W.codeIn K cd20 "_law_turned" = true)
  (k20:PySem.W.keepIn K (.ref f20)=true)
  (a21 : PySem.W.nsIn K mainGlobals "_law_kinds" = some (some (.ref f21)))
  (l21 : K.lookup f21 = some ⟨oc21, od21, .func (PySem.W.fnOf "_law_kinds" "_law_kinds" (am bA) (af bA) (ab bA) .none kV21 dc21 pm21 an21 cd21 ct21), sl21⟩)
  (c21 : PySem.W.codeIn K cd21 "_law_kinds" = true)
  (k21:PySem.W.keepIn K (.ref f21)=true)
  (a22 : PySem.W.nsIn K mainGlobals "_law_told" = some (some (.ref f22)))
  (l22 : K.lookup f22 = some ⟨oc22, od22, .func (PySem.W.fnOf "_law_told" "_law_told" (am bM) (af bM) (ab bM) .none kV22 dc22 pm22 an22 cd22 ct22), sl22⟩)
  (c22 : PySem.W.codeIn K cd22 "_law_told" = true)
  (k22:PySem.W.keepIn K (.ref f22)=true)
  (a23 : PySem.W.nsIn K mainGlobals "_law_changed" = some (some (.ref f23)))
  (l23 : K.lookup f23 = some ⟨oc23, od23, .func (PySem.W.fnOf "_law_changed" "_law_changed" (am aV) (af aV) (ab aV) .none kV23 dc23 pm23 an23 cd23 ct23), sl23⟩)
  (c23 : PySem.W.codeIn K cd23 "_law_changed" = true)
  (k23:PySem.W.keepIn K (.ref f23)=true)
  (a24 : PySem.W.nsIn K mainGlobals "law" = some (some (.ref f24)))
  (l24 : K.lookup f24 = some ⟨oc24, od24, .func (PySem.W.fnOf "law" "law" (am d9) (af d9) (ab d9) .none kV24 dc24 pm24 an24 cd24 ct24), sl24⟩)
  (c24 : PySem.W.codeIn K cd24 "law" = true)
  (k24:PySem.W.keepIn K (.ref f24)=true)
  (pg:PySem.W.plainGet K C Str.empty=true)
  (hd:PySem.W.hasDictIn K C=true)
  (po:PySem.W.plainOver K C=true)
  (sa : PySem.W.findIn K (.ref C) "__setattr__" = some (some (.builtin "object.__setattr__")))
  (mk:PySem.W.makesIn K C=true)
  (kc:PySem.W.keepIn K (.ref C)=true)
  (n_rank_by_sign : PySem.W.findIn K (.ref C) "rank_by_sign" = some none)
  (n_row_by_sign : PySem.W.findIn K (.ref C) "row_by_sign" = some none)
  (n_shut_by_sign : PySem.W.findIn K (.ref C) "shut_by_sign" = some none)
  (n_sign_by_pair : PySem.W.findIn K (.ref C) "sign_by_pair" = some none)
  (z_len : PySem.W.nsIn K mainGlobals "len" = some none)
  (z_sorted : PySem.W.nsIn K mainGlobals "sorted" = some none)
  (z_sum : PySem.W.nsIn K mainGlobals "sum" = some none)
  (z_any : PySem.W.nsIn K mainGlobals "any" = some none)
  (z_all : PySem.W.nsIn K mainGlobals "all" = some none)
  (z_list : PySem.W.nsIn K mainGlobals "list" = some none)
  (z_tuple : PySem.W.nsIn K mainGlobals "tuple" = some none)
  (z_dict : PySem.W.nsIn K mainGlobals "dict" = some none)
  (z_isinstance : PySem.W.nsIn K mainGlobals "isinstance" = some none)
  (z_int : PySem.W.nsIn K mainGlobals "int" = some none)
  (z_bool : PySem.W.nsIn K mainGlobals "bool" = some none)
  (z_range : PySem.W.nsIn K mainGlobals "range" = some none)
  (z_zip : PySem.W.nsIn K mainGlobals "zip" = some none)
  (aL : PySem.W.nsIn K mainGlobals "LONGEST" = some (some (.int 16 tk))) :
  ∃ fd : FuncData, (∀ (s : Shared) (v : Value), BindsTo s fd ⟨[v], []⟩ [("_law_script", v)]) ∧ ∀ base : Heap, K.In base → base.Ns mainGlobals mg → FnOk l.prog w K mg base CX0 5 fa fd ["_law_script"] (spL K) := by
 have e:=hfa.symm.trans (PySem.W.mg_of X G a24)
 cases e
 have T:Txt K mg C tk:=⟨⟨pg,hd,po,sa⟩,n_rank_by_sign,n_row_by_sign,n_shut_by_sign,n_sign_by_pair,PySem.W.mg_none_of X G z_len,PySem.W.mg_none_of X G z_sorted,PySem.W.mg_none_of X G z_sum,PySem.W.mg_none_of X G z_any,PySem.W.mg_none_of X G z_all,PySem.W.mg_none_of X G z_list,PySem.W.mg_none_of X G z_tuple,PySem.W.mg_none_of X G z_dict,PySem.W.mg_none_of X G z_isinstance,PySem.W.mg_none_of X G z_int,PySem.W.mg_none_of X G z_bool,PySem.W.mg_none_of X G z_range,PySem.W.mg_none_of X G z_zip,PySem.W.mg_of X G aL⟩
 have F1:=bL (st:=bg) l1 c1 k1
 have b1 := F1.binds (ps := ["signs"]) bd_repeated
 have F2:=bL (st:=ax) l2 c2 k2
 have b2 := F2.binds (ps := ["marks", "rows", "shuts"]) iM
 have F3:=bL (st:=av) l3 c3 k3
 have b3 := F3.binds (ps := ["row_by_sign", "shuts"]) gi
 have F4:=bL (st:=aw) l4 c4 k4
 have b4 := F4.binds (ps := ["row_by_sign", "shut_by_sign"]) gC
 have F5:=bL (st:=ay) l5 c5 k5
 have b5 := F5.binds (ps := ["row_by_sign"]) iN
 have F6:=bL (st:=aq) l6 c6 k6
 have b6 := F6.binds (ps := ["lengths"]) fU
 have F7:=bL (st:=aP) l7 c7 k7
 have b7 := F7.binds (ps := ["self", "marks", "rows", "shuts"]) kj
 have F8:=bL (st:=aN) l8 c8 k8
 have b8 := F8.binds (ps := ["self", "sign"]) kh
 have F9:=bL (st:=aX) l9 c9 k9
 have b9 := F9.binds (ps := ["self", "sign"]) bd_Table_row
 have F10:=bL (st:=aO) l10 c10 k10
 have b10 := F10.binds (ps := ["self", "one", "other"]) ki
 have F11:=bL (st:=aG) l11 c11 k11
 have b11 := F11.binds (ps := ["self"]) i4
 have F12:=bL (st:=aM) l12 c12 k12
 have b12 := F12.binds (ps := ["self"]) kg
 have F13:=bL (st:=aE) l13 c13 k13
 have b13 := F13.binds (ps := ["self"]) iZ
 have F14:=bL (st:=aW) l14 c14 k14
 have b14 := F14.binds (ps := ["_law_script", "_law_k"]) bd_l_cell_at
 have F15:=bL (st:=bx) l15 c15 k15
 have b15 := F15.binds (ps := ["_law_found"]) bd_l_whole
 have F16:=bL (st:=bN) l16 c16 k16
 have b16 := F16.binds (ps := ["_law_cell", "_law_pool"]) bd_l_sign
 have F17:=bL (st:=bO) l17 c17 k17
 have b17 := F17.binds (ps := ["_law_number"]) bd_l_rank
 have F18:=bL (st:=cf) l18 c18 k18
 have b18 := F18.binds (ps := ["_law_number", "_law_pool"]) bd_l_row
 have F19:=bL (st:=bz) l19 c19 k19
 have b19 := F19.binds (ps := ["_law_cells"]) bd_l_table
 have F20:=bL (st:=bh) l20 c20 k20
 have b20 := F20.binds (ps := ["_law_row_here", "_law_number"]) bd_l_turned
 have F21:=bL (st:=bA) l21 c21 k21
 have b21 := F21.binds (ps := ["_law_told_here"]) bd_l_kinds
 have F22:=bL (st:=bM) l22 c22 k22
 have b22 := F22.binds (ps := ["_law_table_here", "_law_way"]) bd_l_told
 have F23:=bL (st:=aV) l23 c23 k23
 have b23 := F23.binds (ps := ["_law_told_here", "_law_way"]) bd_l_changed
 have F24:=bL (st:=d9) l24 c24 k24
 refine ⟨PySem.W.fnOf "law" "law" (am d9) (af d9) (ab d9) .none kV24 dc24 pm24 an24 cd24 ct24, fun s v => .of_eq rfl, fun base _ _ => ?_⟩
 have O1:=ok_repeated (P:=l.prog) (w:=w) (base:=base) F1 T
 have L_repeated : Lnk l.prog w K mg base (fun _ => C) "repeated" _ ["signs"] dD := ⟨f1, _, O1, PySem.W.mg_of X G a1, k1, b1⟩
 have O2:=ie (P:=l.prog) (w:=w) (base:=base) F2 T L_repeated
 have L_refuse_twice : Lnk l.prog w K mg base (fun _ => C) "refuse_twice" _ ["marks", "rows", "shuts"] bU := ⟨f2, _, O2, PySem.W.mg_of X G a2, k2, b2⟩
 have O3:=fY (P:=l.prog) (w:=w) (base:=base) F3 T
 have L_refuse_no_pair : Lnk l.prog w K mg base (fun _ => C) "refuse_no_pair" _ ["row_by_sign", "shuts"] bD := ⟨f3, _, O3, PySem.W.mg_of X G a3, k3, b3⟩
 have O4:=gw (P:=l.prog) (w:=w) (base:=base) F4 T
 have L_signs_by_pair : Lnk l.prog w K mg base (fun _ => C) "signs_by_pair" _ ["row_by_sign", "shut_by_sign"] bR := ⟨f4, _, O4, PySem.W.mg_of X G a4, k4, b4⟩
 have O5:=ig (P:=l.prog) (w:=w) (base:=base) F5 T
 have L_full_lengths : Lnk l.prog w K mg base (fun _ => C) "full_lengths" _ ["row_by_sign"] bV := ⟨f5, _, O5, PySem.W.mg_of X G a5, k5, b5⟩
 have O6:=fP (P:=l.prog) (w:=w) (base:=base) F6 T
 have L_refuse_too_long : Lnk l.prog w K mg base (fun _ => C) "refuse_too_long" _ ["lengths"] bB := ⟨f6, _, O6, PySem.W.mg_of X G a6, k6, b6⟩
 have O7:=jU (P:=l.prog) (w:=w) (base:=base) F7 T L_refuse_twice L_refuse_no_pair L_signs_by_pair L_refuse_too_long L_full_lengths
 have L_Table_init : LnkI l.prog w K mg base (fun _ => C) C "Table" _ ["self", "marks", "rows", "shuts"] 0 dN := ⟨f7, _, O7, ⟨mk, a7, i7, kc⟩, PySem.W.mg_of X G aC, b7⟩
 have O8:=jS (P:=l.prog) (w:=w) (base:=base) F8 T
 have L_Table_rank : LnkM l.prog w K mg base (fun _ => C) C "rank" _ ["self", "sign"] hU := ⟨f8, _, O8, ⟨a8, i8, k8⟩, b8⟩
 have O9:=ok_Table_row (P:=l.prog) (w:=w) (base:=base) F9 T
 have L_Table_row : LnkM l.prog w K mg base (fun _ => C) C "row" _ ["self", "sign"] r_trow := ⟨f9, _, O9, ⟨a9, i9, k9⟩, b9⟩
 have O10:=jT (P:=l.prog) (w:=w) (base:=base) F10 T
 have L_Table_pair : LnkM l.prog w K mg base (fun _ => C) C "pair" _ ["self", "one", "other"] hZ := ⟨f10, _, O10, ⟨a10, i10, k10⟩, b10⟩
 have O11:=iW (P:=l.prog) (w:=w) (base:=base) F11 T
 have L_Table_marks : LnkM l.prog w K mg base (fun _ => C) C "marks" _ ["self"] eX := ⟨f11, _, O11, ⟨a11, i11, k11⟩, b11⟩
 have O12:=jR (P:=l.prog) (w:=w) (base:=base) F12 T
 have L_Table_rows : LnkM l.prog w K mg base (fun _ => C) C "rows" _ ["self"] fX := ⟨f12, _, O12, ⟨a12, i12, k12⟩, b12⟩
 have O13:=iV (P:=l.prog) (w:=w) (base:=base) F13 T
 have L_Table_shuts : LnkM l.prog w K mg base (fun _ => C) C "shuts" _ ["self"] eV := ⟨f13, _, O13, ⟨a13, i13, k13⟩, b13⟩
 have O14:=ok_l_cell_at (P:=l.prog) (w:=w) (base:=base) F14 T
 have L_l_cell_at : Lnk l.prog w K mg base (fun _ => C) "_law_cell_at" _ ["_law_script", "_law_k"] dE := ⟨f14, _, O14, PySem.W.mg_of X G a14, k14, b14⟩
 have O15:=ok_l_whole (P:=l.prog) (w:=w) (base:=base) F15 T
 have L_l_whole : Lnk l.prog w K mg base (fun _ => C) "_law_whole" _ ["_law_found"] hJ := ⟨f15, _, O15, PySem.W.mg_of X G a15, k15, b15⟩
 have O16:=ok_l_sign (P:=l.prog) (w:=w) (base:=base) F16 T
 have L_l_sign : Lnk l.prog w K mg base (fun _ => C) "_law_sign" _ ["_law_cell", "_law_pool"] r_sign := ⟨f16, _, O16, PySem.W.mg_of X G a16, k16, b16⟩
 have O17:=ok_l_rank (P:=l.prog) (w:=w) (base:=base) F17 T
 have L_l_rank : Lnk l.prog w K mg base (fun _ => C) "_law_rank" _ ["_law_number"] r_rank := ⟨f17, _, O17, PySem.W.mg_of X G a17, k17, b17⟩
 have O18:=ok_l_row (P:=l.prog) (w:=w) (base:=base) F18 T
 have L_l_row : Lnk l.prog w K mg base (fun _ => C) "_law_row" _ ["_law_number", "_law_pool"] r_row := ⟨f18, _, O18, PySem.W.mg_of X G a18, k18, b18⟩
 have O19:=ok_l_table (P:=l.prog) (w:=w) (base:=base) F19 T L_l_sign L_l_row L_l_rank
 have L_l_table : Lnk l.prog w K mg base (fun _ => C) "_law_table" _ ["_law_cells"] hV := ⟨f19, _, O19, PySem.W.mg_of X G a19, k19, b19⟩
 have O20:=ok_l_turned (P:=l.prog) (w:=w) (base:=base) F20 T
 have L_l_turned : Lnk l.prog w K mg base (fun _ => C) "_law_turned" _ ["_law_row_here", "_law_number"] cB := ⟨f20, _, O20, PySem.W.mg_of X G a20, k20, b20⟩
 have O21:=ok_l_kinds (P:=l.prog) (w:=w) (base:=base) F21 T L_l_whole
 have L_l_kinds : Lnk l.prog w K mg base (fun _ => C) "_law_kinds" _ ["_law_told_here"] h8 := ⟨f21, _, O21, PySem.W.mg_of X G a21, k21, b21⟩
 have O22:=ok_l_told (P:=l.prog) (w:=w) (base:=base) F22 T L_Table_shuts L_Table_rows L_Table_marks L_l_kinds
 have L_l_told : Lnk l.prog w K mg base (fun _ => C) "_law_told" _ ["_law_table_here", "_law_way"] cM := ⟨f22, _, O22, PySem.W.mg_of X G a22, k22, b22⟩
 have O23:=ok_l_changed (P:=l.prog) (w:=w) (base:=base) F23 T
 have L_l_changed : LnkC l.prog w K mg base "_law_changed" _ ["_law_told_here", "_law_way"] := ⟨f23, _, O23, PySem.W.mg_of X G a23, k23, b23⟩
 exact FnOk.imp (ok_law (P:=l.prog) (w:=w) (base:=base) F24 T L_l_cell_at L_l_table L_Table_init L_l_turned L_l_told L_l_changed L_Table_pair L_Table_row L_Table_rank) (law_sp hK)
theorem walk {l:PySem.W.OpenLaw} {q:Program} {loose:List Str} {XP:(Str→Option Value)→Heap→Prop} {YP:World→Heap→Prop} {d:DefRec} {K:Params→PySem.W.Frag} (hn:l.most=some 63) (hdf:d.params.defaults=[])
  (hY:∀ (w:World) (h:Heap),YP w h→(K w.params).In h)
  (F:∀ (w:World) (mg:Str→Option Value) (fa:Addr) (h:Heap),(K w.params).In h→h.Ns mainGlobals mg→mg d.name=some (.ref fa) →
   ∃ fd : FuncData, (∀ (s : Shared) (u : Value), BindsTo s fd ⟨[u], []⟩ [("_law_script", u)]) ∧ ∀ base : Heap, (K w.params).In base → base.Ns mainGlobals mg → FnOk l.prog w (K w.params) mg base CX0 5 fa fd ["_law_script"] (spL (K w.params))) :
  PySem.W.WalkO q loose XP YP l.row.toRowW d [] (fun f vs=>PySem.call f vs) :=
 L2.walk_of (n := 63) (k := 5) (x := "_law_script") (CX := fun _ => CX0) (sp := fun w => spL (K w.params)) hn (by decide) hdf ⟨rfl, by decide, by decide⟩ hY F (fun _ _ a ns hl _ hS => ⟨a, ns, rfl, hS, hl, fun _ => rfl⟩) fun _ _ _ _ _ z => z
end K13
open PySem PySem.W PyProof.Rows
set_option maxRecDepth 100000 in
set_option maxHeartbeats 0 in
theorem PySem.Challenge.cw_signforms_k13_lists_told_holds : PySem.Challenge.rw_signforms_k13_lists_told.Holds := by
 w_on; o_law; k_head; (case hw=>w_witness2)
 k_fill
 refine K13.walk (l:=PySem.Challenge.rw_signforms_k13_lists_told) rfl rfl (fun w h Y=>PySem.W.kIn_of Y) ?F
 case F =>
  intro w mg fa h KX G hmg
  refine' K13.all_mk KX G hmg ?hK ?aC ?a1 ?l1 ?c1 ?k1 ?a2 ?l2 ?c2 ?k2 ?a3 ?l3 ?c3 ?k3 ?a4 ?l4 ?c4 ?k4 ?a5 ?l5 ?c5 ?k5 ?a6 ?l6 ?c6 ?k6 ?a7 ?i7 ?l7 ?c7 ?k7 ?a8 ?i8 ?l8 ?c8 ?k8 ?a9 ?i9 ?l9 ?c9 ?k9 ?a10 ?i10 ?l10 ?c10 ?k10 ?a11 ?i11 ?l11 ?c11 ?k11 ?a12 ?i12 ?l12 ?c12 ?k12 ?a13 ?i13 ?l13 ?c13 ?k13 ?a14 ?l14 ?c14 ?k14 ?a15 ?l15 ?c15 ?k15 ?a16 ?l16 ?c16 ?k16 ?a17 ?l17 ?c17 ?k17 ?a18 ?l18 ?c18 ?k18 ?a19 ?l19 ?c19 ?k19 ?a20 ?l20 ?c20 ?k20 ?a21 ?l21 ?c21 ?k21 ?a22 ?l22 ?c22 ?k22 ?a23 ?l23 ?c23 ?k23 ?a24 ?l24 ?c24 ?k24 ?pg ?hd ?po ?sa ?mk ?kc ?n_rank_by_sign ?n_row_by_sign ?n_shut_by_sign ?n_sign_by_pair ?z_len ?z_sorted ?z_sum ?z_any ?z_all ?z_list ?z_tuple ?z_dict ?z_isinstance ?z_int ?z_bool ?z_range ?z_zip ?aL
  (case aC=>k_is)
  (case a1=>k_is)
  (case l1=>k_is)
  (case c1=>k_is)
  (case k1=>k_is)
  (case a2=>k_is)
  (case l2=>k_is)
  (case c2=>k_is)
  (case k2=>k_is)
  (case a3=>k_is)
  (case l3=>k_is)
  (case c3=>k_is)
  (case k3=>k_is)
  (case a4=>k_is)
  (case l4=>k_is)
  (case c4=>k_is)
  (case k4=>k_is)
  (case a5=>k_is)
  (case l5=>k_is)
  (case c5=>k_is)
  (case k5=>k_is)
  (case a6=>k_is)
  (case l6=>k_is)
  (case c6=>k_is)
  (case k6=>k_is)
  (case a7=>k_is)
  (case i7=>k_is)
  (case l7=>k_is)
  (case c7=>k_is)
  (case k7=>k_is)
  (case a8=>k_is)
  (case i8=>k_is)
  (case l8=>k_is)
  (case c8=>k_is)
  (case k8=>k_is)
  (case a9=>k_is)
  (case i9=>k_is)
  (case l9=>k_is)
  (case c9=>k_is)
  (case k9=>k_is)
  (case a10=>k_is)
  (case i10=>k_is)
  (case l10=>k_is)
  (case c10=>k_is)
  (case k10=>k_is)
  (case a11=>k_is)
  (case i11=>k_is)
  (case l11=>k_is)
  (case c11=>k_is)
  (case k11=>k_is)
  (case a12=>k_is)
  (case i12=>k_is)
  (case l12=>k_is)
  (case c12=>k_is)
  (case k12=>k_is)
  (case a13=>k_is)
  (case i13=>k_is)
  (case l13=>k_is)
  (case c13=>k_is)
  (case k13=>k_is)
  (case a14=>k_is)
  (case l14=>k_is)
  (case c14=>k_is)
  (case k14=>k_is)
  (case a15=>k_is)
  (case l15=>k_is)
  (case c15=>k_is)
  (case k15=>k_is)
  (case a16=>k_is)
  (case l16=>k_is)
  (case c16=>k_is)
  (case k16=>k_is)
  (case a17=>k_is)
  (case l17=>k_is)
  (case c17=>k_is)
  (case k17=>k_is)
  (case a18=>k_is)
  (case l18=>k_is)
  (case c18=>k_is)
  (case k18=>k_is)
  (case a19=>k_is)
  (case l19=>k_is)
  (case c19=>k_is)
  (case k19=>k_is)
  (case a20=>k_is)
  (case l20=>k_is)
  (case c20=>k_is)
  (case k20=>k_is)
  (case a21=>k_is)
  (case l21=>k_is)
  (case c21=>k_is)
  (case k21=>k_is)
  (case a22=>k_is)
  (case l22=>k_is)
  (case c22=>k_is)
  (case k22=>k_is)
  (case a23=>k_is)
  (case l23=>k_is)
  (case c23=>k_is)
  (case k23=>k_is)
  (case a24=>k_is)
  (case l24=>k_is)
  (case c24=>k_is)
  (case k24=>k_is)
  (case pg=>k_is)
  (case hd=>k_is)
  (case po=>k_is)
  (case sa=>k_is)
  (case mk=>k_is)
  (case kc=>k_is)
  (case n_rank_by_sign=>k_is)
  (case n_row_by_sign=>k_is)
  (case n_shut_by_sign=>k_is)
  (case n_sign_by_pair=>k_is)
  (case z_len=>k_is)
  (case z_sorted=>k_is)
  (case z_sum=>k_is)
  (case z_any=>k_is)
  (case z_all=>k_is)
  (case z_list=>k_is)
  (case z_tuple=>k_is)
  (case z_dict=>k_is)
  (case z_isinstance=>k_is)
  (case z_int=>k_is)
  (case z_bool=>k_is)
  (case z_range=>k_is)
  (case z_zip=>k_is)
  (case aL=>k_is)
  (case hK=>kernel_rfl)
