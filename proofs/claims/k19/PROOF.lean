import PyProof.Rows.All
import Wide.All
import OpenK.AllK
import Wide.FinOn
import PyProof.EqAt
import PyProof.EqKinds
import PyProof.TupleCall
import PyProof.CompFree
import Lean
import Open.Line
import KE.KUnpack
import PyProof.SliceList
import PyProof.Conv_int_bool
import PyProof.StationsW
import KE.KTryMore
import PyProof.ExcClass3
import OpenK.KOwn
import PyProof.NsDelKeeps
import PyProof.RulesAs
import KE.KIsAll
import OpenK.KDescr
import OpenK.KCls
import PyProof.ExcArgsOwn
import PyProof.ExcAttrAll.ValueError
import PyProof.ExcBaseAll.ValueError
import PyProof.FString
import OpenK.KMore
import PyProof.RangeIter
import PyProof.CallStr
import PyProof.StrCalls2
import PyProof.StrCalls3
import PyProof.StrBlockL
import PyProof.FitsInt
import PySem.Challenge.RW_signforms_k19_refusals_made
set_option tactic.hygienic false
set_option genInjectivity false
set_option Elab.async false
set_option linter.all false
set_option maxRecDepth 100000
set_option genSizeOf false
set_option maxHeartbeats 4000000
set_option bootstrap.genMatcherCode false
noncomputable section
set_option tactic.hygienic false
set_option genInjectivity false
set_option Elab.async false
set_option linter.all false
set_option maxRecDepth 100000
namespace L2
open PySem PySem.Spec PyProof.Rows
abbrev Key := Sum Int Str
def keyIs : Key → Value → Bool
  | .inl k, v => Value.isInt k v
  | .inr x, v => Value.isStrOf x v
def keyH (w : World) : Key → Int
  | .inl k => hashInt k
  | .inr x => hashStr w x
theorem keyIs_shape : ∀ {k : Key} {v : Value}, keyIs k v = true → (∃ i t, k = Sum.inl i ∧ v = Value.int i t) ∨ (∃ x t, k = Sum.inr x ∧ v = Value.str x t)
  | .inl i, v, h => by
    obtain ⟨t, e⟩ := Value.isInt_shape (k := i) (v := v) h
    exact .inl ⟨i, t, rfl, e⟩
  | .inr x, v, h => by
    obtain ⟨t, e⟩ := Value.isStrOf_shape (x := x) (v := v) h
    exact .inr ⟨x, t, rfl, e⟩
theorem keyIs_int (i : Int) (t : Tok) : keyIs (.inl i) (.int i t) = true := by simp [keyIs, Value.isInt]
theorem keyIs_str (x : Str) (t : Tok) : keyIs (.inr x) (.str x t) = true := by simp [keyIs, Value.isStrOf]
theorem key_ll (a b : Int) : decide ((Sum.inl a : Key) = Sum.inl b) = (a == b) := by
  by_cases e : a = b
  · subst e; simp
  · have h : ¬ (Sum.inl a : Key) = Sum.inl b := fun q => e (Sum.inl.inj q)
    rw [decide_eq_false h]
    exact (beq_eq_false_iff_ne.mpr e).symm
theorem key_rr (a b : Str) : decide ((Sum.inr a : Key) = Sum.inr b) = decide (a = b) := by
  by_cases e : a = b
  · subst e; simp
  · have h : ¬ (Sum.inr a : Key) = Sum.inr b := fun q => e (Sum.inr.inj q)
    rw [decide_eq_false h, decide_eq_false e]
theorem key_lr (a : Int) (b : Str) : decide ((Sum.inl a : Key) = Sum.inr b) = false := decide_eq_false (fun q => nomatch q)
theorem key_rl (a : Str) (b : Int) : decide ((Sum.inr a : Key) = Sum.inl b) = false := decide_eq_false (fun q => nomatch q)
def mixKind (prog : Program) (w : World) : PySem.KeyKind prog w Key where
  is := keyIs
  hash := keyH w
  inj := fun v a b ha hb => by
    rcases keyIs_shape ha with ⟨i, t, rfl, rfl⟩ | ⟨x, t, rfl, rfl⟩
    · rcases keyIs_shape hb with ⟨j, u, rfl, e⟩ | ⟨y, u, rfl, e⟩
      · injection e with e1 _; rw [e1]
      · exact nomatch e
    · rcases keyIs_shape hb with ⟨j, u, rfl, e⟩ | ⟨y, u, rfl, e⟩
      · exact nomatch e
      · injection e with e1 _; rw [e1]
  byValue := fun k v h => by
    rcases keyIs_shape h with ⟨i, t, rfl, rfl⟩ | ⟨x, t, rfl, rfl⟩ <;> rfl
  pyHash := fun hv h => by
    rcases keyIs_shape hv with ⟨i, t, rfl, rfl⟩ | ⟨x, t, rfl, rfl⟩
    · exact wpAny_pyHash_int h
    · exact wpAny_pyHash_str h
  eqBool := fun hu hv h => by
    rcases keyIs_shape hu with ⟨i, t, rfl, rfl⟩ | ⟨x, t, rfl, rfl⟩
    · rcases keyIs_shape hv with ⟨j, u, rfl, rfl⟩ | ⟨y, u, rfl, rfl⟩
      · rw [key_ll] at h; exact wpAny_eqBool_int h
      · rw [key_lr] at h; exact SeqAt.EqAt.int_str i t y u _ _ _ _ h
    · rcases keyIs_shape hv with ⟨j, u, rfl, rfl⟩ | ⟨y, u, rfl, rfl⟩
      · rw [key_rl] at h; exact SeqAt.EqAt.str_int x t j u _ _ _ _ h
      · rw [key_rr] at h; exact wpAny_eqBool_str h
  «strs» := fun k x t v h => by
    rcases keyIs_shape h with ⟨i, u, rfl, e⟩ | ⟨y, u, rfl, e⟩
    · exact nomatch e
    · injection e with e1 _
      subst e1
      cases v <;> rfl
theorem mixKind_int (prog : Program) (w : World) (i : Int) (t : Tok) : (mixKind prog w).is (.inl i) (.int i t) = true := keyIs_int i t
theorem mixKind_str (prog : Program) (w : World) (x : Str) (t : Tok) : (mixKind prog w).is (.inr x) (.str x t) = true := keyIs_str x t
set_option genInjectivity true in
inductive V where
  | non | bl (b : Bool) | int (i : Int) | str (x : Str) | byt (b : Array UInt8) | flt (b : UInt64) | ref (a : Addr) | ty (n : String)
  deriving DecidableEq
def RelV : V → Value → Prop
  | .non, u => u = Value.none
  | .bl b, u => u = Value.bool b
  | .int i, u => ∃ t, u = Value.int i t
  | .str x, u => ∃ t, u = Value.str x t
  | .byt b, u => ∃ t, u = Value.bytes b t
  | .flt b, u => ∃ t, u = Value.float b t
  | .ref a, u => u = Value.ref a
  | .ty n, u => u = Value.type n
abbrev Vals : List V → List Value → Prop := Paired RelV
theorem Vals.length {xs : List V} {us : List Value} (r : Vals xs us) : xs.length = us.length := Paired.length r
theorem Vals.get : ∀ {xs : List V} {us : List Value} {i : Nat} {x : V}, Vals xs us → xs[i]? = some x → ∃ u, us[i]? = some u ∧ RelV x u := by
  intro xs us i x h
  induction h generalizing i with
  | nil => exact fun e => nomatch List.getElem?_nil.symm.trans e
  | cons r t ih =>
    intro e
    cases i with
    | zero => exact ⟨_, rfl, Option.some.inj e ▸ r⟩
    | succ i => exact ih e
theorem Vals.append : ∀ {xs ys : List V} {us ws : List Value}, Vals xs us → Vals ys ws → Vals (xs ++ ys) (us ++ ws) := by
  intro xs ys us ws h s
  induction h with
  | nil => exact s
  | cons r t ih => exact .cons r ih
theorem Vals.take : ∀ {xs : List V} {us : List Value} (n : Nat), Vals xs us → Vals (xs.take n) (us.take n) := by
  intro xs us n h
  induction h generalizing n with
  | nil => rw [List.take_nil, List.take_nil]; exact .nil
  | cons r t ih =>
    cases n with
    | zero => exact .nil
    | succ n => exact .cons r (ih n)
theorem Vals.drop : ∀ {xs : List V} {us : List Value} (n : Nat), Vals xs us → Vals (xs.drop n) (us.drop n) := by
  intro xs us n h
  induction h generalizing n with
  | nil => rw [List.drop_nil, List.drop_nil]; exact .nil
  | cons r t ih =>
    cases n with
    | zero => exact .cons r t
    | succ n => exact ih n
def RelO : Option V → Option Value → Prop
  | some v, some u => RelV v u
  | none, none => True
  | _, _ => False
def KV {κ : Type} : List (κ × V) → List (κ × Value) → Prop := Paired fun (p : κ × V) (q : κ × Value) => p.1 = q.1 ∧ RelV p.2 q.2
def kV : Key → V
  | .inl i => .int i
  | .inr x => .str x
set_option genInjectivity true in
inductive HO where
    | lst (xs : List V)
    | tup (xs : List V)
    | dK (kvs : List (Key × V)) | dT (kvs : List (List Key × V))
    | set (S : Int → Bool) (n : Nat)
    | ins (C dx : Addr) (fs : List (Str × V))
    | own (x : Addr)
    | xd (fs : List (Str × V))
    | met (f x : Addr)
    | rng (lo hi : Int)
    | frz (o : Obj) (u : HO)
    | tbl (ps : Array Value)
    | ext (φ : Heap → Prop)
abbrev Hp := Addr → Option HO
def upd (H : Hp) (a : Addr) (o : HO) : Hp := fun b => if b = a then some o else H b
theorem upd_same {H : Hp} {a : Addr} {o : HO} : upd H a o a = some o := by unfold upd; rw [if_pos rfl]
theorem upd_ne {H : Hp} {a b : Addr} {o : HO} (h : b ≠ a) : upd H a o b = H b := by unfold upd; rw [if_neg h]
theorem ne_of_none {H : Hp} {a b : Addr} {o : HO} (h : H a = some o) (h' : H b = none) : a ≠ b := by
  intro e; subst e; rw [h] at h'; injection h'
inductive OLst (h : Heap) (a : Addr) (xs : List V) : Prop
  | mk (z : xs.length ≤ sizeLine) (its : List Value) (n : Nat) (r : Vals xs its) (e : h.get? a = some { cls := .type "list", data := .seq its.toArray n })
inductive OTup (h : Heap) (a : Addr) (xs : List V) : Prop
  | mk (z : xs.length ≤ sizeLine) (its : List Value) (r : Vals xs its) (e : IsTup h a its.toArray)
inductive ODic (P : Program) (w : World) (h : Heap) (a : Addr) (kvs : List (Key × V)) : Prop
  | mk (z : kvs.length ≤ sizeLine) (y : (a == sysModules) = false) (vs : List (Key × Value)) (r : KV kvs vs) (e : h.DictOf (mixKind P w) a vs)
inductive OIns (H : Hp) (h : Heap) (a C dx : Addr) (fs : List (Str × V)) : Prop
  | mk (d : H dx = some (.own a)) (z : fs.length ≤ 1000) (ne : dx ≠ a) (e : h.get? a = some (PySem.W.instObj C dx)) (mA : Str → Option Value) (n : h.Ns1 dx mA) (r : ∀ f, RelO (fs.lookup f) (mA f)) (wi : PySem.Within mA (fs.map (·.1)))
section
variable (P : Program) (w : World)
def ObjOk (H : Hp) (h : Heap) (a : Addr) : HO → Prop
  | .lst xs => OLst h a xs
  | .tup xs => OTup h a xs
  | .dK kvs => ODic P w h a kvs
  | .dT kvs => kvs.length ≤ sizeLine ∧ (a == sysModules) = false ∧ ∃ xs : List (List Key × Addr × Value),
      Paired (fun (p : List Key × V) (q : List Key × Addr × Value) => p.1 = q.1 ∧ H q.2.1 = some (.tup (p.1.map kV)) ∧ RelV p.2 q.2.2) kvs xs ∧
      ∃ o es ep, h.get? a = some o ∧ o.ExactDict ∧ o.data = .dict es ep ∧ es.toList = xs.map (entryOfKey (tupleKind (mixKind P w))) ∧ (xs.map (·.1)).Nodup
  | .set S n => h.SetOf (intKind P w) a S n
  | .ins C dx fs => OIns H h a C dx fs
  | .own _ => ∃ o, h.get? a = some o
  | .xd fs => ∃ mA, h.Ns1 a mA ∧ ∀ f, RelO (fs.lookup f) (mA f)
  | .rng lo hi => ∃ t u v, h.get? a = some { cls := .type "range", data := .fields #[.int lo t, .int hi u, .int 1 v] }
  | .frz o u => h.get? a = some o ∧ ObjOk H h a u
  | .tbl ps => h.get? a = some { cls := .none, data := .fields ps }
  | .met f x => h.get? a = some (PySem.W.methodObj (.ref f) (.ref x))
  | .ext φ => φ h ∧ (∃ o, h.get? a = some o) ∧ ∀ h1 h2 : Heap, φ h1 → (∀ o, h1.get? a = some o → h2.get? a = some o) → φ h2
def HOk (H : Hp) (h : Heap) : Prop := ∀ a o, H a = some o → ObjOk P w H h a o
end
section
variable {P : Program} {w : World} {H H' : Hp} {h h' : Heap} {a : Addr} {o : HO}
theorem ObjOk.lt (x : ObjOk P w H h a o) : a < h.objs.size := by
  cases o with
  | lst xs => obtain ⟨_, _, _, _, e⟩ := x; exact Heap.lt_size e
  | tup xs => obtain ⟨_, _, _, p⟩ := x; exact p.lt
  | dK kvs => obtain ⟨_, _, _, _, o, _, _, e, _⟩ := x; exact Heap.lt_size e
  | dT kvs => obtain ⟨_, _, _, _, o, _, _, e, _⟩ := x; exact Heap.lt_size e
  | set S n => obtain ⟨o, _, _, _, e, _⟩ := x; exact Heap.lt_size e
  | ins C dx fs => obtain ⟨_, _, _, e, _⟩ := x; exact Heap.lt_size e
  | own y => obtain ⟨_, e⟩ := x; exact Heap.lt_size e
  | xd fs => obtain ⟨_, ⟨_, _, _, e, _⟩, _⟩ := x; exact Heap.lt_size e
  | rng lo hi => obtain ⟨_, _, _, e⟩ := x; exact Heap.lt_size e
  | frz ob u => obtain ⟨e, _⟩ := x; exact Heap.lt_size e
  | tbl ps => exact Heap.lt_size (show h.get? a = some _ from x)
  | met f y => exact Heap.lt_size (show h.get? a = some _ from x)
  | ext φ => obtain ⟨_, ⟨_, e⟩, _⟩ := x; exact Heap.lt_size e
theorem Paired.mapP {α β : Type} {F G : α → β → Prop} : ∀ {l₁ : List α} {l₂ : List β}, Paired F l₁ l₂ → (∀ a b, F a b → G a b) → Paired G l₁ l₂ := by
  intro l₁ l₂ h f
  induction h with
  | nil => exact .nil
  | cons r t ih => exact .cons (f _ _ r) ih
theorem ObjOk.stay (x : ObjOk P w H h a o) (k : ∀ b u, (b = a ∨ H b = some (.own a)) → h.get? b = some u → h'.get? b = some u)
    (ho : ∀ b, H b = some (.own a) → H' b = some (.own a)) (ht : ∀ b xs, H b = some (.tup xs) → H' b = some (.tup xs)) : ObjOk P w H' h' a o := by
  induction o with
  | lst xs => obtain ⟨z, its, n, r, e⟩ := x; exact ⟨z, its, n, r, k _ _ (.inl rfl) e⟩
  | tup xs => obtain ⟨z, its, r, ob, e, c⟩ := x; exact ⟨z, its, r, ob, k _ _ (.inl rfl) e, c⟩
  | dK kvs => obtain ⟨z, y, vs, r, ob, es, ep, e, c⟩ := x; exact ⟨z, y, vs, r, ob, es, ep, k _ _ (.inl rfl) e, c⟩
  | dT kvs =>
    obtain ⟨z, y, xs, r, ob, es, ep, e, c⟩ := x
    exact ⟨z, y, xs, Paired.mapP r fun p q z => ⟨z.1, ht _ _ z.2.1, z.2.2⟩, ob, es, ep, k _ _ (.inl rfl) e, c⟩
  | set S n => obtain ⟨ob, es, ep, t, e, c⟩ := x; exact ⟨ob, es, ep, t, k _ _ (.inl rfl) e, c⟩
  | ins C dx fs =>
    obtain ⟨d, z, ne, e, mA, ⟨od, es, ep, e2, c⟩, r, wi⟩ := x
    exact ⟨ho _ d, z, ne, k _ _ (.inl rfl) e, mA, ⟨od, es, ep, k _ _ (.inr d) e2, c⟩, r, wi⟩
  | own y => obtain ⟨ob, e⟩ := x; exact ⟨ob, k _ _ (.inl rfl) e⟩
  | xd fs => obtain ⟨mA, ⟨od, es, ep, e, c⟩, r⟩ := x; exact ⟨mA, ⟨od, es, ep, k _ _ (.inl rfl) e, c⟩, r⟩
  | rng lo hi => obtain ⟨t, u, v, e⟩ := x; exact ⟨t, u, v, k _ _ (.inl rfl) e⟩
  | frz ob u ih => obtain ⟨e, q⟩ := x; exact ⟨k _ _ (.inl rfl) e, ih q⟩
  | tbl ps =>
    have e : h.get? a = some { cls := .none, data := .fields ps } := x
    show h'.get? a = some { cls := .none, data := .fields ps }
    exact k a _ (.inl rfl) e
  | met f y =>
    have e : h.get? a = some (PySem.W.methodObj (.ref f) (.ref y)) := x
    show h'.get? a = some (PySem.W.methodObj (.ref f) (.ref y))
    exact k a _ (.inl rfl) e
  | ext φ => obtain ⟨p, ⟨o, e⟩, st⟩ := x; exact ⟨st _ _ p fun o q => k _ _ (.inl rfl) q, ⟨o, k _ _ (.inl rfl) e⟩, st⟩
theorem HOk.lt (x : HOk P w H h) (e : H a = some o) : a < h.objs.size := (x a o e).lt
theorem HOk.fresh (x : HOk P w H h) (e : h.objs.size ≤ a) : H a = none := by
  cases q : H a with
  | none => rfl
  | some u => exact absurd (Nat.lt_of_lt_of_le (x.lt q) e) (Nat.lt_irrefl _)
theorem HOk.kept (x : HOk P w H h) (k : ∀ b u, h.get? b = some u → h'.get? b = some u) : HOk P w H h' := fun a o e =>
  (x a o e).stay (fun b u _ q => k b u q) (fun _ q => q) fun _ _ q => q
theorem HOk.laid (x : HOk P w H h) (k : ∀ b u, h.get? b = some u → h'.get? b = some u) (hp : h.objs.size ≤ a) (new : ObjOk P w (upd H a o) h' a o) : HOk P w (upd H a o) h' := fun b u e => by
  have hn := x.fresh hp
  by_cases hb : b = a
  · subst hb; rw [upd_same] at e; (injection e with e; subst e); exact new
  · rw [upd_ne hb] at e
    exact (x b u e).stay (fun c v _ q => k c v q) (fun c q => by rw [upd_ne (ne_of_none q hn)]; exact q) fun c xs q => by rw [upd_ne (ne_of_none q hn)]; exact q
end
def Rd (H : Hp) (a : Addr) (u : HO) : Prop := H a = some u ∨ ∃ o, H a = some (.frz o u)
theorem Rd.ok {P : Program} {w : World} {H : Hp} {h : Heap} {a : Addr} {u : HO} (r : Rd H a u) (x : HOk P w H h) : ObjOk P w H h a u := by
  rcases r with r | ⟨o, r⟩
  · exact x a u r
  · obtain ⟨_, q⟩ := x a _ r
    exact q
def Mut : Option HO → Prop
  | some (.lst _) => True
  | some (.dK _) => True
  | some (.dT _) => True
  | some (.set _ _) => True
  | some (.ins _ _ _) => True
  | some (.ext _) => True
  | _ => False
section
variable {P : Program} {w : World} {H : Hp} {h h' : Heap} {x e : Addr} {o' : HO}
theorem HOk.write (ok : HOk P w H h) (mu : Mut (H x)) (he : e = x ∨ H e = some (.own x)) (k : ∀ b u, b ≠ e → h.get? b = some u → h'.get? b = some u) (heo : ∃ u, h'.get? e = some u)
    (new : ObjOk P w (upd H x o') h' x o') : HOk P w (upd H x o') h' := fun b u q => by
  have nown : ∀ c y, H c = some (.own y) → c ≠ x := fun c y r z => by subst z; rw [r] at mu; exact mu
  have ntup : ∀ c xs, H c = some (.tup xs) → c ≠ x := fun c xs r z => by subst z; rw [r] at mu; exact mu
  by_cases hb : b = x
  · subst hb; rw [upd_same] at q; (injection q with q; subst q); exact new
  · rw [upd_ne hb] at q
    by_cases hbe : b = e
    · have q' : H b = some (.own x) := by
        rcases he with z | z
        · exact absurd (hbe.trans z) hb
        · rw [hbe]; exact z
      rw [q] at q'; (injection q' with q'; subst q')
      obtain ⟨v, hv⟩ := heo
      exact ⟨v, by rw [hbe]; exact hv⟩
    · refine (ok b u q).stay (fun c v hc r => k c v ?_ r) (fun c r => by rw [upd_ne (nown c b r)]; exact r) fun c xs r => by rw [upd_ne (ntup c xs r)]; exact r
      rcases hc with rfl | hc
      · exact hbe
      · rintro rfl
        rcases he with z | z
        · exact nown c b hc z
        · rw [hc] at z; (injection z with z; injection z with z; subst z); exact hb rfl
end
structure Un (fs ex : List Addr) (H H' : Hp) (h h' : Heap) : Prop where
  keep : ∀ b o, h.get? b = some o → H b = none → b ∉ fs → b ∉ ex → h'.get? b = some o
  slot : ∀ b o, h.get? b = some o → H b = none → b ∈ fs → b ∉ ex → ∃ sl, h'.get? b = some { o with slots := sl }
  free : ∀ b o, h.get? b = some o → H b = none → b ∉ ex → H' b = none
  there : ∀ b o, h.get? b = some o → b ∉ ex → ∃ o', h'.get? b = some o'
  tups : ∀ b xs, H b = some (.tup xs) → H' b = some (.tup xs)
  frzs : ∀ b o u, H b = some (.frz o u) → H' b = some (.frz o u)
  tbls : ∀ b ps, H b = some (.tbl ps) → ∃ more, H' b = some (.tbl (ps ++ more))
section
variable {fs fs' ex ex' : List Addr} {H H1 H2 : Hp} {h h1 h2 h' : Heap} {a x e : Addr} {o : HO}
theorem Un.any (u : Un fs ex H H1 h h1) {b : Addr} {ob : Obj} (q : h.get? b = some ob) (n : H b = none) (hx : b ∉ ex) : ∃ sl, h1.get? b = some { ob with slots := sl } := by
  by_cases hb : b ∈ fs
  · exact u.slot b ob q n hb hx
  · exact ⟨ob.slots, u.keep b ob q n hb hx⟩
theorem Un.kept (k : ∀ b u, h.get? b = some u → h'.get? b = some u) : Un fs ex H H h h' :=
  ⟨fun b ob q _ _ _ => k b ob q, fun b ob q _ _ _ => ⟨ob.slots, k b ob q⟩, fun _ _ _ n _ => n, fun b ob q _ => ⟨ob, k b ob q⟩, fun _ _ q => q, fun _ _ _ q => q, fun _ ps q => ⟨#[], by rw [q]; simp⟩⟩
theorem Un.refl : Un fs ex H H h h := Un.kept fun _ _ q => q
theorem Un.laid (k : ∀ b u, h.get? b = some u → h'.get? b = some u) (hp : h.objs.size ≤ a) (hn : H a = none) : Un fs ex H (upd H a o) h h' where
  keep := fun b u q _ _ _ => k b u q
  slot := fun b u q _ _ _ => ⟨u.slots, k b u q⟩
  free := fun b u q n _ => by rw [upd_ne (Nat.ne_of_lt (Nat.lt_of_lt_of_le (Heap.lt_size q) hp))]; exact n
  there := fun b u q _ => ⟨u, k b u q⟩
  tups := fun b xs q => by rw [upd_ne (ne_of_none q hn)]; exact q
  frzs := fun b u xs q => by rw [upd_ne (ne_of_none q hn)]; exact q
  tbls := fun b ps q => ⟨#[], by rw [upd_ne (ne_of_none q hn), q]; simp⟩
theorem Un.write (mu : Mut (H x)) (he : e = x ∨ H e = some (.own x)) (k : ∀ b u, b ≠ e → h.get? b = some u → h'.get? b = some u) (heo : ∃ u, h'.get? e = some u) : Un fs ex H (upd H x o) h h' := by
  have hx : ∀ b, H b = none → b ≠ x := fun b n z => by subst z; rw [n] at mu; exact mu
  have hb : ∀ b, H b = none → b ≠ e := fun b n z => by
    subst z
    rcases he with r | r
    · exact hx b n r
    · rw [n] at r; injection r
  have hm : ∀ b u, H b = some u → ¬ Mut (some u) → b ≠ x := fun b u q nm z => by subst z; rw [q] at mu; exact nm mu
  refine ⟨fun b u q n _ _ => k b u (hb b n) q, fun b u q n _ _ => ⟨u.slots, k b u (hb b n) q⟩, fun b u q n _ => by rw [upd_ne (hx b n)]; exact n, fun b u q _ => ?_,
    fun b xs q => by rw [upd_ne (hm b _ q fun z => z)]; exact q, fun b u xs q => by rw [upd_ne (hm b _ q fun z => z)]; exact q, fun b ps q => ⟨#[], by rw [upd_ne (hm b _ q fun z => z), q]; simp⟩⟩
  by_cases hbe : b = e
  · subst hbe; exact heo
  · exact ⟨u, k b u hbe q⟩
end
def trk (h : Heap) (H : Hp) : List Addr := (List.range h.objs.size).filter fun a => (H a).isSome
def hidT (h : Heap) (H : Hp) : Heap := PySem.W.hideAll h (trk h H)
theorem hidT_size (h : Heap) (H : Hp) : (hidT h H).objs.size = h.objs.size := PySem.W.hideAll_size _ _
theorem hidT_get {h : Heap} {H : Hp} {b : Addr} {o : Obj} (e : h.get? b = some o) (n : H b = none) : (hidT h H).get? b = some o :=
  PySem.W.hideAll_get _ e fun hm => by
    have q : (H b).isSome = true := (List.mem_filter.mp hm).2
    rw [n] at q; simp at q
theorem of_hidT {h : Heap} {H : Hp} {b : Addr} {o : Obj} (e : (hidT h H).get? b = some o) : h.get? b = some o ∧ H b = none := by
  have e' : h.get? b = some o := PySem.W.of_hideAll (trk h H) e
  refine ⟨e', ?_⟩
  cases q : H b with
  | none => rfl
  | some x =>
    have hm : b ∈ trk h H := List.mem_filter.mpr ⟨List.mem_range.mpr (Heap.lt_size e'), by simp [q]⟩
    have z : (hidT h H).get? b = none := PySem.W.hideAll_none (trk h H) hm
    rw [z] at e; injection e
structure Mod (K : PySem.W.Frag) (mg : Str → Option Value) (base : Heap) : Prop where
  kin : K.In base
  glob : base.Ns mainGlobals mg
  blt : ∃ mb, base.Ns builtinsNs mb ∧ ∀ x : Str, x ≠ "__name__" → mb x = bootBuiltins x
  nolimit : base.NoLimit
structure Cx where
  prog : Program
  w : World
  K : PySem.W.Frag
  mg : Str → Option Value
  base : Heap
  A : Around
  N : List Str
  s₀ : Shared
  H₀ : Hp
  env : Env
  outer : List Env
  stack : List Env
  ex : List Addr
  fn : Str → Bool
  calm : Bool
  pn : List (Addr × Obj)
  xe : Value → Shared → Prop
def frs (l : List Env) : List Addr := l.filterMap (·.frame)
abbrev Cx.fs (X : Cx) : List Addr := frs X.outer
def Vis (sc : Scope) (x : Str) : Prop := sc.names.lookup x = some .local ∨ sc.names.lookup x = some .cell ∨ sc.names.lookup x = some .free
def Loc (sc : Scope) (x : Str) : Prop := sc.names.lookup x = some .local ∨ sc.names.lookup x = some .cell
def Look (env : Env) (h : Heap) (m : Str → Option Value) (x : Str) (u : Value) : Prop :=
  (env.kindOf x = some .local ∧ m x = some u) ∨ ((env.kindOf x = some .cell ∨ env.kindOf x = some .free) ∧ ∃ c, env.cells.lookup x = some c ∧ h.IsCell c (some u))
structure Cx.Ok (X : Cx) : Prop where
  mod : Mod X.K X.mg X.base
  kind : X.env.scope.kind = .function
  glob : X.env.globals = mainGlobals
  blt : X.env.builtins = builtinsNs
  above : X.s₀.heap.objs.size ≤ X.env.locals
  inj : ∀ x y c, X.env.cells.lookup x = some c → X.env.cells.lookup y = some c → x = y
  has : ∀ x, (X.env.kindOf x = some .cell ∨ X.env.kindOf x = some .free) → ∃ c, X.env.cells.lookup x = some c
  cab : ∀ x c, X.fn x = true → X.env.cells.lookup x = some c → X.s₀.heap.objs.size ≤ c
  hd : X.calm = true → X.A.handled = none
  frames : X.A.frames = some X.stack
  stk : X.stack = X.outer ∨ (X.stack = X.env :: X.outer ∧ X.env.frame = some X.env.locals)
  exf : ∀ b ∈ X.ex, b ≠ X.env.locals ∧ ∀ x c, X.env.cells.lookup x = some c → c ≠ b
  bs : ∀ b o, X.base.get? b = some o → X.s₀.heap.get? b = some o ∧ X.H₀ b = none
  bsz : X.base.objs.size ≤ X.s₀.heap.objs.size
  noex : ∀ b o, X.base.get? b = some o → b ∉ X.ex
  exfs : ∀ b ∈ X.ex, b ∉ X.fs
  funs : X.s₀.heap.FunFrames X.base X.outer
  frf : ∀ b ∈ X.fs, X.H₀ b = none
structure Inv (X : Cx) (pins : List (Addr × Obj)) (σ : List (Option V)) (H : Hp) (s : Shared) : Prop where
  ok : X.Ok
  os : s.os = X.s₀.os
  bare : AllBare s.gens
  base : Un X.fs X.ex X.H₀ H X.s₀.heap s.heap
  loc : ∃ m, s.heap.Ns X.env.locals m ∧ ∀ (i : Nat) (x : Str) (v : V), X.N[i]? = some x → σ[i]? = some (some v) → Vis X.env.scope x → ∃ u, RelV v u ∧ Look X.env s.heap m x u
  cell : ∀ x c, X.env.cells.lookup x = some c → ∃ v, s.heap.IsCell c v
  free : H X.env.locals = none
  freeC : ∀ x c, X.env.cells.lookup x = some c → H c = none
  pin : ∀ p ∈ X.pn ++ pins, s.heap.get? p.1 = some p.2 ∧ H p.1 = none ∧ p.1 ≠ X.env.locals ∧ p.1 ∉ X.fs ∧ ∀ v, p.2.data ≠ .cell v
  hok : HOk X.prog X.w H s.heap
  len : σ.length = X.N.length
section
variable {X : Cx} {pins : List (Addr × Obj)} {σ : List (Option V)} {H H' : Hp} {s : Shared} {h' : Heap}
theorem Cx.Ok.nofr (ok : X.Ok) {b : Addr} {o : Obj} (e : X.base.get? b = some o) : b ∉ X.fs := fun hb => by
  have := (ok.funs.mem hb).1
  rw [e] at this; injection this
theorem Inv.bs (I : Inv X pins σ H s) : ∀ b o, X.base.get? b = some o → s.heap.get? b = some o ∧ H b = none := fun b o e =>
  ⟨I.base.keep b o (I.ok.bs b o e).1 (I.ok.bs b o e).2 (I.ok.nofr e) (I.ok.noex b o e), I.base.free b o (I.ok.bs b o e).1 (I.ok.bs b o e).2 (I.ok.noex b o e)⟩
theorem Inv.bk (I : Inv X pins σ H s) : ∀ b o, X.base.get? b = some o → s.heap.get? b = some o := fun b o e => (I.bs b o e).1
theorem Inv.mod (I : Inv X pins σ H s) : Mod X.K X.mg X.base := I.ok.mod
theorem Inv.kIn (I : Inv X pins σ H s) : X.K.In s.heap := I.ok.mod.kin.keeps I.bk
theorem Inv.lt (I : Inv X pins σ H s) : X.env.locals < s.heap.objs.size := let ⟨_, hn, _⟩ := I.loc; hn.lt
theorem Inv.sz (I : Inv X pins σ H s) : X.s₀.heap.objs.size ≤ s.heap.objs.size := Nat.le_trans I.ok.above (Nat.le_of_lt I.lt)
theorem Inv.nofs (I : Inv X pins σ H s) {a : Addr} (h : s.heap.objs.size ≤ a) : a ∉ X.fs := fun hb => by
  obtain ⟨_, o, ho, _⟩ := I.ok.funs.mem hb
  exact absurd (Nat.lt_of_lt_of_le (Heap.lt_size ho) (Nat.le_trans I.sz h)) (Nat.lt_irrefl _)
theorem Inv.cne (I : Inv X pins σ H s) : ∀ x c, X.env.cells.lookup x = some c → c ≠ X.env.locals := fun x c e z => by
  obtain ⟨v, o, ho, hd⟩ := I.cell x c e
  obtain ⟨m, ⟨o', es, ep, ho', hd', _⟩, _⟩ := I.loc
  rw [z, ho'] at ho; (injection ho with ho; subst ho); rw [hd'] at hd; injection hd
theorem Inv.funs (I : Inv X pins σ H s) : s.heap.FunFrames X.base X.outer := by
  have all : ∀ (l : List Env), (∀ b ∈ frs l, b ∈ X.fs) → X.s₀.heap.FunFrames X.base l → s.heap.FunFrames X.base l := by
    intro l
    induction l with
    | nil => intro _ _; trivial
    | cons env r ih =>
      intro hs hl
      obtain ⟨hk, ⟨L, o, hf, hn, ho, hd⟩, hr⟩ := hl
      have hL : L ∈ X.fs := hs L (by unfold frs; rw [List.filterMap_cons, hf]; exact List.mem_cons_self)
      obtain ⟨sl, e⟩ := I.base.slot L o ho (I.ok.frf L hL) hL fun z => I.ok.exfs L z hL
      exact ⟨hk, ⟨L, _, hf, hn, e, hd⟩, ih (fun b hb => hs b (by unfold frs; rw [List.filterMap_cons, hf]; exact List.mem_cons_of_mem _ hb)) hr⟩
  exact all X.outer (fun _ hb => hb) I.ok.funs
theorem Inv.stack (I : Inv X pins σ H s) : s.heap.FunFrames X.base X.stack := by
  rcases I.ok.stk with e | ⟨e, hf⟩
  · rw [e]; exact I.funs
  · rw [e]
    obtain ⟨m, hn, _⟩ := I.loc
    refine .cons (by rw [I.ok.kind]; decide) hf hn ?_ I.funs
    exact Heap.get?_none_of_le (Nat.le_trans I.ok.bsz I.ok.above)
theorem Inv.stkSub (I : Inv X pins σ H s) : ∀ b ∈ frs X.stack, b ∈ X.env.locals :: X.fs := fun b hb => by
  rcases I.ok.stk with e | ⟨e, hf⟩
  · rw [e] at hb; exact List.mem_cons_of_mem _ hb
  · rw [e] at hb
    unfold frs at hb
    rw [List.filterMap_cons, hf] at hb
    exact hb
theorem Inv.stkFree (I : Inv X pins σ H s) : ∀ b ∈ frs X.stack, H b = none := fun b hb => by
  rcases List.mem_cons.mp (I.stkSub b hb) with e | hb
  · rw [e]; exact I.free
  · obtain ⟨_, o, ho, _⟩ := I.ok.funs.mem hb
    exact I.base.free b o ho (I.ok.frf b hb) fun z => I.ok.exfs b z hb
theorem Inv.step {g' : Array GenState} {t' : Nat} {d' : Drawn} {ch : List Addr} (I : Inv X pins σ H s)
    (hch : ∀ b ∈ ch, (b ∈ X.ex ∨ X.s₀.heap.objs.size ≤ b) ∧ b ≠ X.env.locals ∧ (∀ x c, X.env.cells.lookup x = some c → c ≠ b) ∧ ∀ p ∈ X.pn ++ pins, p.1 ≠ b)
    (keep : ∀ b o, b ≠ X.env.locals → b ∉ X.fs → b ∉ ch → s.heap.get? b = some o → H b = none → h'.get? b = some o)
    (slot : ∀ b o, b ≠ X.env.locals → b ∈ X.fs → b ∉ ch → s.heap.get? b = some o → H b = none → ∃ sl, h'.get? b = some { o with slots := sl }) (free : ∀ b o, b ∉ ch → s.heap.get? b = some o → H b = none → H' b = none)
    (there : ∀ b o, b ∉ ch → s.heap.get? b = some o → ∃ o', h'.get? b = some o')
    (tups : ∀ b xs, H b = some (.tup xs) → H' b = some (.tup xs)) (frzs : ∀ b o u, H b = some (.frz o u) → H' b = some (.frz o u)) (tbls : ∀ b ps, H b = some (.tbl ps) → ∃ more, H' b = some (.tbl (ps ++ more)))
    (ns : ∀ m, s.heap.Ns X.env.locals m → h'.Ns X.env.locals m) (hok : HOk X.prog X.w H' h') (hg : AllBare g') :
    Inv X pins σ H' { s with heap := h', gens := g', drawn := d', toks := t' } := by
  have neL : ∀ b o, X.s₀.heap.get? b = some o → b ≠ X.env.locals := fun b o e => Nat.ne_of_lt (Nat.lt_of_lt_of_le (Heap.lt_size e) I.ok.above)
  have neC : ∀ b o, X.s₀.heap.get? b = some o → b ∉ X.ex → b ∉ ch := fun b o e hx hb => by
    rcases (hch b hb).1 with z | z
    · exact hx z
    · exact absurd (Nat.lt_of_lt_of_le (Heap.lt_size e) z) (Nat.lt_irrefl _)
  have cellK : ∀ x c, X.env.cells.lookup x = some c → ∀ v, s.heap.IsCell c v → h'.IsCell c v := fun x c e v ⟨o, ho, hd⟩ => by
    have nch : c ∉ ch := fun z => (hch c z).2.2.1 x c e rfl
    by_cases hc : c ∈ X.fs
    · obtain ⟨sl, q⟩ := slot c o (I.cne x c e) hc nch ho (I.freeC x c e)
      exact ⟨_, q, hd⟩
    · exact ⟨o, keep c o (I.cne x c e) hc nch ho (I.freeC x c e), hd⟩
  refine ⟨I.ok, I.os, hg, ⟨fun b o e n hb hx => ?_, fun b o e n hb hx => ?_, fun b o e n hx => ?_, fun b o e hx => ?_, fun b xs e => tups b xs (I.base.tups b xs e), fun b o xs e => frzs b o xs (I.base.frzs b o xs e), fun b ps e => ?_⟩, ?_, fun x c e => ?_, ?_, fun x c e => ?_, fun p hp => ?_, hok, I.len⟩
  · exact keep b o (neL b o e) hb (neC b o e hx) (I.base.keep b o e n hb hx) (I.base.free b o e n hx)
  · obtain ⟨sl, e1⟩ := I.base.slot b o e n hb hx
    obtain ⟨sl', e2⟩ := slot b _ (neL b o e) hb (neC b o e hx) e1 (I.base.free b o e n hx)
    exact ⟨sl', e2⟩
  · obtain ⟨o', e1⟩ := I.base.there b o e hx
    exact free b o' (neC b o e hx) e1 (I.base.free b o e n hx)
  · obtain ⟨o', e1⟩ := I.base.there b o e hx
    exact there b o' (neC b o e hx) e1
  · obtain ⟨m1, e1⟩ := I.base.tbls b ps e
    obtain ⟨m2, e2⟩ := tbls b _ e1
    exact ⟨m1 ++ m2, by rw [e2, Array.append_assoc]⟩
  · obtain ⟨m, hn, hl⟩ := I.loc
    refine ⟨m, ns m hn, fun i x v e1 e2 e3 => ?_⟩
    obtain ⟨u, r, l⟩ := hl i x v e1 e2 e3
    refine ⟨u, r, ?_⟩
    rcases l with l | ⟨k, c, e, z⟩
    · exact .inl l
    · exact .inr ⟨k, c, e, cellK x c e _ z⟩
  · obtain ⟨v, z⟩ := I.cell x c e
    exact ⟨v, cellK x c e v z⟩
  · obtain ⟨m, ⟨o, _, _, ho, _⟩, _⟩ := I.loc
    exact free _ o (fun z => (hch _ z).2.1 rfl) ho I.free
  · obtain ⟨v, o, ho, hd⟩ := I.cell x c e
    exact free c o (fun z => (hch c z).2.2.1 x c e rfl) ho (I.freeC x c e)
  · obtain ⟨e, n, ne, nf, d⟩ := I.pin p hp
    have nch : p.1 ∉ ch := fun z => (hch p.1 z).2.2.2 p hp rfl
    exact ⟨keep p.1 p.2 ne nf nch e n, free p.1 p.2 nch e n, ne, nf, d⟩
theorem Inv.un {t' : Nat} (I : Inv X pins σ H s) (u : Un X.fs [] H H' s.heap h') (hok : HOk X.prog X.w H' h') : Inv X pins σ H' { s with heap := h', toks := t' } := by
  obtain ⟨m, ⟨o, es, ep, ho, r⟩, _⟩ := id I.loc
  obtain ⟨sl, hL⟩ := u.any ho I.free (by simp)
  exact I.step (g' := s.gens) (d' := s.drawn) (ch := []) (fun _ z => nomatch z) (fun b o _ hb _ e n => u.keep b o e n hb (by simp)) (fun b o _ hb _ e n => u.slot b o e n hb (by simp)) (fun b o _ e n => u.free b o e n (by simp)) (fun b o _ e => u.there b o e (by simp)) u.tups u.frzs u.tbls (fun m' hm => by
    obtain ⟨o', es', ep', ho', r'⟩ := hm
    rw [ho] at ho'; (injection ho' with ho'; subst ho')
    exact ⟨_, es', ep', hL, r'⟩) hok I.bare
theorem Inv.call {g' : Array GenState} {t' : Nat} {d' : Drawn} {ch : List Addr} (I : Inv X pins σ H s) (u : Un (frs X.stack) ch H H' s.heap h') (hok : HOk X.prog X.w H' h') (hg : AllBare g')
    (hch : ∀ b ∈ ch, (b ∈ X.ex ∨ X.s₀.heap.objs.size ≤ b) ∧ b ≠ X.env.locals ∧ (∀ x c, X.env.cells.lookup x = some c → c ≠ b) ∧ ∀ p ∈ X.pn ++ pins, p.1 ≠ b) :
    Inv X pins σ H' { s with heap := h', gens := g', drawn := d', toks := t' } := by
  obtain ⟨m, ⟨o, es, ep, ho, r⟩, _⟩ := id I.loc
  obtain ⟨sl, hL⟩ := u.any ho I.free fun z => (hch _ z).2.1 rfl
  exact I.step (ch := ch) hch (fun b o hL hb hc e n => u.keep b o e n (fun z => (List.mem_cons.mp (I.stkSub b z)).elim hL hb) hc) (fun b o _ _ hc e n => u.any e n hc) (fun b o hc e n => u.free b o e n hc) (fun b o hc e => u.there b o e hc) u.tups u.frzs u.tbls (fun m' hm => by
    obtain ⟨o', es', ep', ho', r'⟩ := hm
    rw [ho] at ho'; (injection ho' with ho'; subst ho')
    exact ⟨_, es', ep', hL, r'⟩) hok hg
theorem Inv.turned {t' : Nat} {it : Addr} (I : Inv X pins σ H s) (k : ∀ b o, b ≠ it → s.heap.get? b = some o → h'.get? b = some o) (hn : H it = none) (hL : it ≠ X.env.locals)
    (h1 : it ∈ X.ex ∨ X.s₀.heap.objs.size ≤ it) (h2 : ∀ x c, X.env.cells.lookup x = some c → c ≠ it) (h3 : ∀ p ∈ X.pn ++ pins, p.1 ≠ it) : Inv X pins σ H { s with heap := h', toks := t' } := by
  have nit : ∀ b u, H b = some u → b ≠ it := fun b u e z => by rw [z, hn] at e; injection e
  refine I.step (g' := s.gens) (d' := s.drawn) (ch := [it]) (fun b hb => ?_) (fun b o _ _ hc e _ => k b o (fun z => hc (by simp [z])) e) (fun b o _ _ hc e _ => ⟨o.slots, k b o (fun z => hc (by simp [z])) e⟩) (fun _ _ _ _ n => n)
    (fun b o hc e => ⟨o, k b o (fun z => hc (by simp [z])) e⟩) (fun _ _ e => e) (fun _ _ _ e => e) (fun b ps e => ⟨#[], by rw [e]; simp⟩) (fun m hm => ?_) (fun b u e => ?_) I.bare
  · have e : b = it := by simpa using hb
    subst e
    exact ⟨h1, hL, h2, h3⟩
  · obtain ⟨o, es, ep, ho, r⟩ := hm
    exact ⟨o, es, ep, k _ o (Ne.symm hL) ho, r⟩
  · refine (I.hok b u e).stay (fun c v hc q => k c v ?_ q) (fun _ q => q) fun _ _ q => q
    rcases hc with z | z
    · rw [z]; exact nit b u e
    · exact nit c _ z
theorem Inv.tok (I : Inv X pins σ H s) (t : Nat) : Inv X pins σ H { s with toks := t } := I.un (h' := s.heap) (t' := t) Un.refl I.hok
theorem Inv.kept {t' : Nat} (I : Inv X pins σ H s) (k : ∀ b u, s.heap.get? b = some u → h'.get? b = some u) : Inv X pins σ H { s with heap := h', toks := t' } := I.un (Un.kept k) (I.hok.kept k)
theorem Inv.laid {a : Addr} {o : HO} {t' : Nat} (I : Inv X pins σ H s) (k : ∀ b u, s.heap.get? b = some u → h'.get? b = some u) (hp : s.heap.objs.size ≤ a) (new : ObjOk X.prog X.w (upd H a o) h' a o) :
    Inv X pins σ (upd H a o) { s with heap := h', toks := t' } := I.un (Un.laid k hp (I.hok.fresh hp)) (I.hok.laid k hp new)
theorem Inv.write {x e : Addr} {o : HO} {t' : Nat} (I : Inv X pins σ H s) (mu : Mut (H x)) (he : e = x ∨ H e = some (.own x)) (k : ∀ b u, b ≠ e → s.heap.get? b = some u → h'.get? b = some u) (heo : ∃ u, h'.get? e = some u)
    (new : ObjOk X.prog X.w (upd H x o) h' x o) : Inv X pins σ (upd H x o) { s with heap := h', toks := t' } := I.un (Un.write mu he k heo) (I.hok.write mu he k heo new)
theorem Inv.pins_of {pins' : List (Addr × Obj)} (I : Inv X pins σ H s) (h : ∀ p ∈ pins', s.heap.get? p.1 = some p.2 ∧ H p.1 = none ∧ p.1 ≠ X.env.locals ∧ p.1 ∉ X.fs ∧ ∀ v, p.2.data ≠ .cell v) : Inv X pins' σ H s :=
  ⟨I.ok, I.os, I.bare, I.base, I.loc, I.cell, I.free, I.freeC, fun p hp => (List.mem_append.mp hp).elim (fun z => I.pin p (List.mem_append_left _ z)) (h p), I.hok, I.len⟩
theorem nodup_ix {N : List Str} (hN : N.Nodup) {i j : Nat} {x : Str} (a : N[i]? = some x) (b : N[j]? = some x) : i = j := by
  obtain ⟨h1, e1⟩ := List.getElem?_eq_some_iff.mp a
  obtain ⟨h2, e2⟩ := List.getElem?_eq_some_iff.mp b
  exact (List.getElem_inj hN).mp (e1.trans e2.symm)
theorem store_ok2 {M : Model} {A : Around} {E : Value → Shared → Prop} {i : Nat} {x : Str} {v : V} {u : Value} {Q : Unit → Shared → Prop} (I : Inv X pins σ H s) (hN : X.N.Nodup) (hi : X.N[i]? = some x) (hx : Loc X.env.scope x) (r : RelV v u)
    (h : ∀ s', Inv X pins (σ.set i (some v)) H s' → (∃ a, Heap.SameBut a s.heap s'.heap ∧ (a = X.env.locals ∨ X.env.cells.lookup x = some a)) → Q () s') (hf : X.fn x = true ∨ X.env.scope.names.lookup x = some .local := by first | exact .inl rfl | exact .inr rfl | assumption) : wpAny M A (storeName X.env x u) Q E s := by
  obtain ⟨m, hn, hl⟩ := id I.loc
  have hcls : (X.env.scope.kind == .class || (X.env.scope.kind == .module && X.env.locals != X.env.globals)) = false := by rw [I.ok.kind]; rfl
  have hiσ : i < σ.length := by rw [I.len]; exact (List.getElem?_eq_some_iff.mp hi).1
  have cne := I.cne
  have tracked : ∀ {a : Addr} {h' : Heap}, (∃ o, s.heap.get? a = some o ∧ H a = none) → Heap.SameBut a s.heap h' → HOk X.prog X.w H h' := fun {a h'} ha hs b ob e => by
    obtain ⟨_, _, hfree⟩ := ha
    refine (I.hok b ob e).stay (fun c w' hc q => (hs.2 c ?_).trans q) (fun _ q => q) fun _ _ q => q
    rintro rfl
    rcases hc with rfl | hc
    · rw [hfree] at e; injection e
    · rw [hfree] at hc; injection hc
  rcases hx with hk | hk
  · refine wpAny_storeName_local hk hn (fun h' hn' hs => ?_) hcls
    obtain ⟨oL, _, _, hoL, _⟩ := id hn
    refine h _ ⟨I.ok, I.os, I.bare, ⟨fun b o e n hb hx => ?_, fun b o e n hb hx => ?_, I.base.free, fun b o e hx => ?_, I.base.tups, I.base.frzs, I.base.tbls⟩, ⟨_, hn', fun j y v' e1 e2 e3 => ?_⟩, fun y c e => ?_, I.free, I.freeC, fun p hp => ?_, tracked ⟨oL, hoL, I.free⟩ hs, by simpa using I.len⟩ ⟨_, hs, .inl rfl⟩
    · exact (hs.2 b (Nat.ne_of_lt (Nat.lt_of_lt_of_le (Heap.lt_size e) I.ok.above))).trans (I.base.keep b o e n hb hx)
    · obtain ⟨sl, e1⟩ := I.base.slot b o e n hb hx
      exact ⟨sl, (hs.2 b (Nat.ne_of_lt (Nat.lt_of_lt_of_le (Heap.lt_size e) I.ok.above))).trans e1⟩
    · obtain ⟨o', e1⟩ := I.base.there b o e hx
      exact ⟨o', (hs.2 b (Nat.ne_of_lt (Nat.lt_of_lt_of_le (Heap.lt_size e) I.ok.above))).trans e1⟩
    · by_cases hj : j = i
      · subst hj
        rw [hi] at e1; (injection e1 with e1; subst e1)
        rw [List.getElem?_set_self hiσ] at e2
        (injection e2 with e2; injection e2 with e2; subst e2)
        exact ⟨u, r, .inl ⟨hk, by simp⟩⟩
      · rw [List.getElem?_set_ne (Ne.symm hj)] at e2
        obtain ⟨u', r', q⟩ := hl j y v' e1 e2 e3
        refine ⟨u', r', ?_⟩
        rcases q with ⟨k, e⟩ | ⟨k, c, e, z⟩
        · refine .inl ⟨k, ?_⟩
          have : y ≠ x := fun e => hj (nodup_ix hN e1 (e ▸ hi))
          simp [this, e]
        · exact .inr ⟨k, c, e, z.sameBut hs (cne y c e)⟩
    · obtain ⟨w', z⟩ := I.cell y c e
      exact ⟨w', z.sameBut hs (cne y c e)⟩
    · obtain ⟨e, n, ne, nf, d⟩ := I.pin p hp
      exact ⟨(hs.2 p.1 ne).trans e, n, ne, nf, d⟩
  · have hfn : X.fn x = true := by
      rcases hf with z | z
      · exact z
      · rw [z] at hk; (injection hk with hk; injection hk)
    obtain ⟨c, hc⟩ := I.ok.has x (.inl hk)
    obtain ⟨w', z⟩ := I.cell x c hc
    refine wpAny_storeName_cell I.ok.kind hk hc z (fun h' hc' hs => ?_)
    obtain ⟨oc, hoc, hocd⟩ := id z
    refine h { s with heap := h' } ⟨I.ok, I.os, I.bare, ⟨fun b o e n hb hx => ?_, fun b o e n hb hx => ?_, I.base.free, fun b o e hx => ?_, I.base.tups, I.base.frzs, I.base.tbls⟩, ⟨m, hn.sameBut hs (Ne.symm (cne x c hc)), fun j y v' e1 e2 e3 => ?_⟩, fun y c' e => ?_, I.free, I.freeC, fun p hp => ?_, tracked ⟨oc, hoc, I.freeC x c hc⟩ hs, by simpa using I.len⟩ ⟨c, hs, .inr hc⟩
    · exact (hs.2 b (Nat.ne_of_lt (Nat.lt_of_lt_of_le (Heap.lt_size e) (I.ok.cab x c hfn hc)))).trans (I.base.keep b o e n hb hx)
    · obtain ⟨sl, e1⟩ := I.base.slot b o e n hb hx
      exact ⟨sl, (hs.2 b (Nat.ne_of_lt (Nat.lt_of_lt_of_le (Heap.lt_size e) (I.ok.cab x c hfn hc)))).trans e1⟩
    · obtain ⟨o', e1⟩ := I.base.there b o e hx
      exact ⟨o', (hs.2 b (Nat.ne_of_lt (Nat.lt_of_lt_of_le (Heap.lt_size e) (I.ok.cab x c hfn hc)))).trans e1⟩
    · by_cases hj : j = i
      · subst hj
        rw [hi] at e1; (injection e1 with e1; subst e1)
        rw [List.getElem?_set_self hiσ] at e2
        (injection e2 with e2; injection e2 with e2; subst e2)
        exact ⟨u, r, .inr ⟨.inl hk, c, hc, hc'⟩⟩
      · rw [List.getElem?_set_ne (Ne.symm hj)] at e2
        obtain ⟨u', r', q⟩ := hl j y v' e1 e2 e3
        refine ⟨u', r', ?_⟩
        rcases q with q | ⟨k, c', e, z'⟩
        · exact .inl q
        · refine .inr ⟨k, c', e, z'.sameBut hs ?_⟩
          rintro rfl
          exact hj (nodup_ix hN e1 (I.ok.inj _ _ _ e hc ▸ hi))
    · by_cases hcc : c' = c
      · subst hcc; exact ⟨_, hc'⟩
      · obtain ⟨w2, z2⟩ := I.cell y c' e
        exact ⟨w2, z2.sameBut hs hcc⟩
    · obtain ⟨e, n, ne, nf, d⟩ := I.pin p hp
      refine ⟨(hs.2 p.1 ?_).trans e, n, ne, nf, d⟩
      intro q
      rw [q, hoc] at e
      have q' : oc = p.2 := Option.some.inj e
      exact d w' (by rw [← q']; exact hocd)
theorem store_ok {M : Model} {A : Around} {E : Value → Shared → Prop} {i : Nat} {x : Str} {v : V} {u : Value} {Q : Unit → Shared → Prop} (I : Inv X pins σ H s) (hN : X.N.Nodup) (hi : X.N[i]? = some x) (hx : Loc X.env.scope x) (r : RelV v u)
    (h : ∀ s', Inv X pins (σ.set i (some v)) H s' → Q () s') (hf : X.fn x = true ∨ X.env.scope.names.lookup x = some .local := by first | exact .inl rfl | exact .inr rfl | assumption) : wpAny M A (storeName X.env x u) Q E s :=
  store_ok2 I hN hi hx r (fun s' I' _ => h s' I') hf
theorem Inv.call' {s' : Shared} {ch : List Addr} (I : Inv X pins σ H s) (ho : s'.os = s.os) (u : Un (frs X.stack) ch H H' s.heap s'.heap) (hok : HOk X.prog X.w H' s'.heap) (hg : AllBare s'.gens)
    (hch : ∀ b ∈ ch, (b ∈ X.ex ∨ X.s₀.heap.objs.size ≤ b) ∧ b ≠ X.env.locals ∧ (∀ x c, X.env.cells.lookup x = some c → c ≠ b) ∧ ∀ p ∈ X.pn ++ pins, p.1 ≠ b) : Inv X pins σ H' s' := by
  obtain ⟨h', g', d', t', o'⟩ := s'
  have e : o' = s.os := ho
  subst e
  exact I.call (g' := g') (t' := t') (d' := d') u hok hg hch
end
abbrev XK := Value → Option Addr → Hp → Prop
abbrev St := List (Option V)
abbrev VK := V → Hp → Prop
abbrev TE := St → Hp → VK → Prop
abbrev TT := St → Hp → (Bool → Hp → Prop) → Prop
abbrev TA := St → Hp → (List V → Hp → Prop) → Prop
structure Ends where
  nx : St → Hp → Prop
  rt : VK
  bk : St → Hp → Prop := fun _ _ => False
  ct : St → Hp → Prop := fun _ _ => False
abbrev TS := Ends → St → Hp → Prop
inductive EP (X : Cx) (pins : List (Addr × Obj)) (σ : St) (Q : VK) (u : Value) (s' : Shared) : Prop
  | mk (v : V) (H' : Hp) (I : Inv X pins σ H' s') (r : RelV v u) (q : Q v H')
inductive TP (X : Cx) (pins : List (Addr × Obj)) (σ : St) (Q : Bool → Hp → Prop) (b : Bool) (s' : Shared) : Prop
  | mk (H' : Hp) (I : Inv X pins σ H' s') (q : Q b H')
inductive AP (X : Cx) (pins : List (Addr × Obj)) (σ : St) (Q : List V → Hp → Prop) (us : List Value) (s' : Shared) : Prop
  | mk (vs : List V) (H' : Hp) (I : Inv X pins σ H' s') (r : Vals vs us) (q : Q vs H')
inductive NP (X : Cx) (pins : List (Addr × Obj)) (Q : St → Hp → Prop) (s' : Shared) : Prop
  | mk (σ' : St) (H' : Hp) (I : Inv X pins σ' H' s') (q : Q σ' H')
inductive RP (X : Cx) (pins : List (Addr × Obj)) (Q : VK) (u : Value) (s' : Shared) : Prop
  | mk (v : V) (σ' : St) (H' : Hp) (I : Inv X pins σ' H' s') (r : RelV v u) (q : Q v H')
def SP (X : Cx) (pins : List (Addr × Obj)) (D : Ends) (f : Flow) (s' : Shared) : Prop :=
  match f with
  | .next => NP X pins D.nx s'
  | .brk => NP X pins D.bk s'
  | .cont => NP X pins D.ct s'
  | .ret u => RP X pins D.rt u s'
def PE (X : Cx) (e : Expr) (t : TE) : Prop :=
  ∀ (pins : List (Addr × Obj)) (s : Shared) (σ : St) (H : Hp) (Q : VK), Inv X pins σ H s → t σ H Q → wpAny (model X.prog X.w) X.A (eval e X.env) (EP X pins σ Q) X.xe s
def PT (X : Cx) (e : Expr) (t : TT) : Prop :=
  ∀ (pins : List (Addr × Obj)) (s : Shared) (σ : St) (H : Hp) (Q : Bool → Hp → Prop), Inv X pins σ H s → t σ H Q → wpAny (model X.prog X.w) X.A (isTrue e X.env (eval e X.env)) (TP X pins σ Q) X.xe s
def PW (X : Cx) (e : Expr) (t : TT) : Prop :=
  ∀ (whole : Sem Value) (pins : List (Addr × Obj)) (s : Shared) (σ : St) (H : Hp) (Q : Bool → Hp → Prop), Inv X pins σ H s → t σ H Q → wpAny (model X.prog X.w) X.A (isTrue e X.env whole) (TP X pins σ Q) X.xe s
theorem PW.pt {X : Cx} {e : Expr} {t : TT} (h : PW X e t) : PT X e t := h _
def PA (X : Cx) (es : List Expr) (t : TA) : Prop :=
  ∀ (pos : Pos) (pins : List (Addr × Obj)) (s : Shared) (σ : St) (H : Hp) (Q : List V → Hp → Prop), Inv X pins σ H s → t σ H Q → wpAny (model X.prog X.w) X.A (spliced (backTo pos (starEach es X.env))) (AP X pins σ Q) X.xe s
def PS (X : Cx) (st : Stmt) (t : TS) : Prop :=
  ∀ (pins : List (Addr × Obj)) (s : Shared) (σ : St) (H : Hp) (D : Ends), Inv X pins σ H s → t D σ H → wpAny (model X.prog X.w) X.A (exec st X.env) (SP X pins D) X.xe s
def PSs (X : Cx) (st : List Stmt) (t : TS) : Prop :=
  ∀ (pins : List (Addr × Obj)) (s : Shared) (σ : St) (H : Hp) (D : Ends), Inv X pins σ H s → t D σ H → wpAny (model X.prog X.w) X.A (execs st X.env) (SP X pins D) X.xe s
theorem thn {α : Type} {t : Sem α} {Q Q' : α → Shared → Prop} {M : Model} {A : Around} {E : Value → Shared → Prop} {s : Shared} (h : wpAny M A t Q E s) (hQ : ∀ a s, Q a s → Q' a s) : wpAny M A t Q' E s := wpAny_mono h hQ fun _ _ x => x
section
variable {X : Cx}
theorem bin {a b : Expr} {ta tb : TE} (ha : PE X a ta) (hb : PE X b tb) {pins : List (Addr × Obj)} {s : Shared} {σ : St} {H : Hp} {R : V → V → Hp → Prop} (I : Inv X pins σ H s) (h : ta σ H fun x H1 => tb σ H1 fun y H2 => R x y H2)
    {α : Type} {Q : α → Shared → Prop} {f : Value → Value → Sem α}
    (hf : ∀ v u s2 x y H2, Inv X pins σ H2 s2 → RelV x v → RelV y u → R x y H2 → wpAny (model X.prog X.w) X.A (f v u) Q X.xe s2) :
    wpAny (model X.prog X.w) X.A (eval a X.env) (fun v s₁ => wpAny (model X.prog X.w) X.A (eval b X.env) (fun u s₂ => wpAny (model X.prog X.w) X.A (f v u) Q X.xe s₂) X.xe s₁) X.xe s := by
  refine thn (ha pins s σ H _ I h) fun v s1 ⟨x, H1, I1, r1, q1⟩ => ?_
  refine thn (hb pins s1 σ H1 _ I1 q1) fun u s2 ⟨y, H2, I2, r2, q2⟩ => ?_
  exact hf v u s2 x y H2 I2 r1 r2 q2
def tVar (i : Nat) : TE := fun σ H Q => ∃ v, σ[i]? = some (some v) ∧ Q v H
def tC (v : V) : TE := fun _ H Q => Q v H
theorem pe_var {i : Nat} {x : Str} {pos : Pos} (hN : X.N[i]? = some x) (hv : Vis X.env.scope x) (hd : (x == ("__debug__" : Str)) = false := by decide) (hcd : (x == ("__classdict__" : Str)) = false := by decide) : PE X (.Name x pos) (tVar i) := by
  intro pins s σ H Q I h
  obtain ⟨v, e, h⟩ := h
  obtain ⟨m, hn, hl⟩ := I.loc
  obtain ⟨u, r, l⟩ := hl i x v hN e hv
  have fin : EP X pins σ Q u s := ⟨v, H, I, r, h⟩
  rcases l with ⟨hk, hm⟩ | ⟨hk, c, hc, hcell⟩
  · exact wpAny_Name (wpAny_loadName_local I.ok.kind hk hn hm fin) hd
  · rcases hk with hk | hk
    · exact wpAny_Name (wpAny_loadName_cell I.ok.kind hk hc hcell fin) hd
    · exact wpAny_Name (wpAny_loadName_free I.ok.kind hk hc hcell fin hcd) hd
theorem pe_int {i j pos} : PE X (.Constant (.int i) j pos) (tC (.int i)) := fun _ _ _ H _ I h => wpAny_Constant_int ⟨.int i, H, I.tok _, ⟨_, rfl⟩, h⟩
theorem pe_bl {b j pos} : PE X (.Constant (.bool b) j pos) (tC (.bl b)) := fun _ _ _ H _ I h => Constant_bool ⟨.bl b, H, I, rfl, h⟩
theorem pe_str {x j pos} : PE X (.Constant (.str x) j pos) (tC (.str x)) := fun _ _ _ H _ I h => Calls.Constant_str ⟨.str x, H, I.tok _, ⟨_, rfl⟩, h⟩
def Gl (X : Cx) (x : Str) : Prop := X.env.kindOf x = some .globalImplicit
theorem ld_glob {E : Value → Shared → Prop} {pins : List (Addr × Obj)} {s : Shared} {σ : St} {H : Hp} {x : Str} {u : Value} {pos : Pos} {Q : Value → Shared → Prop} (I : Inv X pins σ H s) (hg : Gl X x) (hm : X.mg x = some u) (h : Q u s)
    (hd : (x == ("__debug__" : Str)) = false := by decide) : wpAny (model X.prog X.w) X.A (eval (.Name x pos) X.env) Q E s :=
  Calls.Name_function_global I.ok.kind hg (Calls.loadGlobal_global (by rw [I.ok.glob]; exact I.mod.glob.keeps I.bk) hm h) hd
theorem ld_blt {E : Value → Shared → Prop} {pins : List (Addr × Obj)} {s : Shared} {σ : St} {H : Hp} {x : Str} {u : Value} {pos : Pos} {Q : Value → Shared → Prop} (I : Inv X pins σ H s) (hg : Gl X x) (hm : X.mg x = none) (hv : bootBuiltins x = some u) (h : Q u s)
    (hn : x ≠ "__name__" := by decide) (hd : (x == ("__debug__" : Str)) = false := by decide) : wpAny (model X.prog X.w) X.A (eval (.Name x pos) X.env) Q E s := by
  obtain ⟨mb, h1, h2⟩ := I.mod.blt
  exact Calls.Name_function_global I.ok.kind hg (Calls.loadGlobal_builtin (by rw [I.ok.glob]; exact I.mod.glob.keeps I.bk) hm (by rw [I.ok.blt]; exact h1.keeps I.bk) ((h2 x hn).trans hv) h) hd
theorem pe_bltn {x : Str} {v : V} {u : Value} {pos : Pos} (hg : Gl X x) (hm : X.mg x = none) (hv : bootBuiltins x = some u) (r : RelV v u) (hn : x ≠ "__name__" := by decide) (hd : (x == ("__debug__" : Str)) = false := by decide) : PE X (.Name x pos) (tC v) :=
  fun _ _ _ H _ I h => ld_blt I hg hm hv ⟨v, H, I, r, h⟩ hn hd
variable {a b : Expr} {ta tb : TE} {pos : Pos}
variable {tA tB' : TT} {rest : List Expr}
def tOr (t u : TT) : TT := fun σ H Q => t σ H fun c H1 => if c = true then Q true H1 else u σ H1 Q
def tNot (t : TT) : TT := fun σ H Q => t σ H fun c H1 => Q (!c) H1
theorem pw_or1 (ha : PT X a tA) : PW X (.BoolOp .Or [a] pos) tA := by
  intro wh pins s σ H Q I h
  refine isTrue_or (thn (ha pins s σ H Q I h) fun c s1 e => ?_)
  cases c with
  | false => exact isTrue_or_nil e
  | true => exact e
theorem pw_or (ha : PT X a tA) (hb : PW X (.BoolOp .Or (b :: rest) pos) tB') : PW X (.BoolOp .Or (a :: b :: rest) pos) (tOr tA tB') := by
  intro wh pins s σ H Q I h
  refine isTrue_or (thn (ha pins s σ H _ I h) fun c s1 ⟨H1, I1, q1⟩ => ?_)
  cases c with
  | true => exact ⟨H1, I1, q1⟩
  | false => exact hb wh pins s1 σ H1 Q I1 q1
theorem pt_not (ha : PT X a tA) : PT X (.UnaryOp .Not a pos) (tNot tA) := by
  intro pins s σ H Q I h
  exact isTrue_not (thn (ha pins s σ H (fun c H1 => Q (!c) H1) I h) fun c s1 h1 => by
    obtain ⟨H1, I1, q1⟩ := h1
    exact ⟨H1, I1, q1⟩)
def tAndV (ta tb : TE) : TE := fun σ H Q => ta σ H fun x H1 => ∃ c, x = .bl c ∧ if c = true then tb σ H1 Q else Q (.bl false) H1
def tNotV (ta : TE) : TE := fun σ H Q => ta σ H fun x H1 => ∃ c, x = .bl c ∧ Q (.bl (!c)) H1
theorem pe_one {op} {t : TE} (h : PE X a t) : PE X (.BoolOp op [a] pos) t := fun pins s σ H Q I hw => BoolOp_one (h pins s σ H Q I hw)
theorem pe_and (ha : PE X a ta) (hb : PE X (.BoolOp .And (b :: rest) pos) tb) : PE X (.BoolOp .And (a :: b :: rest) pos) (tAndV ta tb) := by
  intro pins s σ H Q I h
  refine BoolOp_and (thn (ha pins s σ H _ I h) fun v s1 ⟨x, H1, I1, r1, q1⟩ => ?_)
  obtain ⟨c, rfl, q1⟩ := q1
  subst r1
  refine wpAny_truthy_bool ?_
  cases c with
  | true => exact hb pins s1 σ H1 Q I1 q1
  | false => exact ⟨.bl false, H1, I1, rfl, q1⟩
theorem pe_not (ha : PE X a ta) : PE X (.UnaryOp .Not a pos) (tNotV ta) := by
  intro pins s σ H Q I h
  refine UnaryOp_ (thn (ha pins s σ H _ I h) fun v s1 ⟨x, H1, I1, r1, q1⟩ => ?_)
  obtain ⟨c, rfl, q1⟩ := q1
  subst r1
  exact not_of (wpAny_truthy_bool ⟨.bl (!c), H1, I1, rfl, q1⟩)
end
def SqL (K : PySem.W.Frag) (H : Hp) (a : Addr) (xs : List V) : Prop :=
  Rd H a (.lst xs) ∨
    ∃ (o : Obj) (its : Array Value) (n : Nat), K.lookup a = some o ∧ o.cls = .type "list" ∧ o.dict = none ∧ o.data = .seq its n ∧ its.size ≤ sizeLine ∧ Vals xs its.toList
def SqT (K : PySem.W.Frag) (H : Hp) (a : Addr) (xs : List V) : Prop :=
  Rd H a (.tup xs) ∨
    ∃ (o : Obj) (its : Array Value) (n : Nat), K.lookup a = some o ∧ o.cls = .type "tuple" ∧ o.data = .seq its n ∧ its.size ≤ sizeLine ∧ Vals xs its.toList
def absV : Value → Option V
  | .none => some .non
  | .bool b => some (.bl b)
  | .int i _ => some (.int i)
  | .str x _ => some (.str x)
  | .bytes b _ => some (.byt b)
  | .float b _ => some (.flt b)
  | .ref a => some (.ref a)
  | .type n => some (.ty n)
  | _ => none
theorem RelV.abs {x : V} {u : Value} (r : RelV x u) : absV u = some x := by
  cases x with
  | non => subst r; rfl
  | bl _ => subst r; rfl
  | int _ => obtain ⟨t, rfl⟩ := r; rfl
  | str _ => obtain ⟨t, rfl⟩ := r; rfl
  | byt _ => obtain ⟨t, rfl⟩ := r; rfl
  | flt _ => obtain ⟨t, rfl⟩ := r; rfl
  | ref _ => subst r; rfl
  | ty _ => subst r; rfl
theorem RelV.inj {x y : V} {u : Value} (r : RelV x u) (q : RelV y u) : x = y := Option.some.inj (r.abs.symm.trans q.abs)
theorem Vals.inj : ∀ {xs ys : List V} {us : List Value}, Vals xs us → Vals ys us → xs = ys := by
  intro xs ys us h
  induction h generalizing ys with
  | nil => intro h'; cases h'; rfl
  | cons r t ih =>
    intro h'
    cases h' with
    | cons r' t' => rw [r.inj r', ih t']
section
variable {X : Cx} {pins : List (Addr × Obj)} {σ : St} {H : Hp} {s : Shared} {a : Addr} {xs ys : List V}
theorem Inv.list (I : Inv X pins σ H s) (h : SqL X.K H a xs) : ∃ its : List Value, Vals xs its ∧ PlainL s.heap a its.toArray ∧ xs.length ≤ sizeLine := by
  rcases h with h | ⟨o, its, n, hk, hc, hd, hs, hz, r⟩
  · obtain ⟨z, its, n, r, e⟩ := h.ok I.hok
    exact ⟨its, r, ⟨_, n, e, rfl, rfl, rfl⟩, z⟩
  · refine ⟨its.toList, r, ⟨o, n, I.kIn a o hk, hc, hd, by simpa using hs⟩, ?_⟩
    have e := r.length
    simp only [Array.length_toList] at e
    omega
theorem Inv.tuple (I : Inv X pins σ H s) (h : SqT X.K H a xs) : ∃ its : List Value, Vals xs its ∧ IsTup s.heap a its.toArray ∧ xs.length ≤ sizeLine := by
  rcases h with h | ⟨o, its, n, hk, hc, hs, hz, r⟩
  · obtain ⟨z, its, r, p⟩ := h.ok I.hok
    exact ⟨its, r, p, z⟩
  · refine ⟨its.toList, r, ⟨o, I.kIn a o hk, hc, n, by simpa using hs⟩, ?_⟩
    have e := r.length
    simp only [Array.length_toList] at e
    omega
theorem Inv.list_inj (I : Inv X pins σ H s) (h : SqL X.K H a xs) (h' : SqL X.K H a ys) : xs = ys := by
  obtain ⟨its, r, ⟨o, n, e, _, _, d⟩, _⟩ := I.list h
  obtain ⟨its', r', ⟨o', n', e', _, _, d'⟩, _⟩ := I.list h'
  rw [e] at e'; (injection e' with e'; subst e')
  rw [d] at d'
  injection d' with d1 _
  have : its = its' := by simpa using congrArg Array.toList d1
  subst this
  exact r.inj r'
theorem Inv.tuple_inj (I : Inv X pins σ H s) (h : SqT X.K H a xs) (h' : SqT X.K H a ys) : xs = ys := by
  obtain ⟨its, r, ⟨o, e, _, n, d⟩, _⟩ := I.tuple h
  obtain ⟨its', r', ⟨o', e', _, n', d'⟩, _⟩ := I.tuple h'
  rw [e] at e'; (injection e' with e'; subst e')
  rw [d] at d'
  injection d' with d1 _
  have : its = its' := by simpa using congrArg Array.toList d1
  subst this
  exact r.inj r'
end
abbrev Cx.wish (X : Cx) (E : Value → Shared → Prop) : Cx := { X with xe := E }
abbrev Cx.nox (X : Cx) : Cx := X.wish fun _ _ => False
theorem Cx.Ok.wish {X : Cx} (ok : X.Ok) (E : Value → Shared → Prop) : (X.wish E).Ok :=
  ⟨ok.mod, ok.kind, ok.glob, ok.blt, ok.above, ok.inj, ok.has, ok.cab, ok.hd, ok.frames, ok.stk, ok.exf, ok.bs, ok.bsz, ok.noex, ok.exfs, ok.funs, ok.frf⟩
theorem Cx.Ok.unwish {X : Cx} {E : Value → Shared → Prop} (ok : (X.wish E).Ok) : X.Ok :=
  ⟨ok.mod, ok.kind, ok.glob, ok.blt, ok.above, ok.inj, ok.has, ok.cab, ok.hd, ok.frames, ok.stk, ok.exf, ok.bs, ok.bsz, ok.noex, ok.exfs, ok.funs, ok.frf⟩
section
variable {X : Cx} {pins : List (Addr × Obj)} {σ : St} {H : Hp} {s : Shared} {E : Value → Shared → Prop}
theorem Inv.wish (I : Inv X pins σ H s) (E : Value → Shared → Prop) : Inv (X.wish E) pins σ H s := ⟨I.ok.wish E, I.os, I.bare, I.base, I.loc, I.cell, I.free, I.freeC, I.pin, I.hok, I.len⟩
theorem Inv.unwish (I : Inv (X.wish E) pins σ H s) : Inv X pins σ H s := ⟨I.ok.unwish, I.os, I.bare, I.base, I.loc, I.cell, I.free, I.freeC, I.pin, I.hok, I.len⟩
theorem SP.unwish {D : Ends} {f : Flow} {s' : Shared} (h : SP (X.wish E) pins D f s') : SP X pins D f s' := by
  cases f with
  | next => obtain ⟨σ', H', I, q⟩ := h; exact ⟨σ', H', I.unwish, q⟩
  | brk => obtain ⟨σ', H', I, q⟩ := h; exact ⟨σ', H', I.unwish, q⟩
  | cont => obtain ⟨σ', H', I, q⟩ := h; exact ⟨σ', H', I.unwish, q⟩
  | ret u => obtain ⟨v, σ', H', I, r, q⟩ := h; exact ⟨v, σ', H', I.unwish, r, q⟩
theorem PSs.nox {st : List Stmt} {t : TS} (h : PSs X.nox st t) : PSs X st t := fun pins s σ H D I hw =>
  wpAny_mono (h pins s σ H D (I.wish _) hw) (fun _ _ q => q.unwish) fun _ _ z => False.elim z
end
section
variable {X : Cx} {st : Stmt} {rest : List Stmt} {t u : TS} {e : Expr} {te : TE} {pos : Pos}
def tNext : TS := fun D σ H => D.nx σ H
def tSeq (t u : TS) : TS := fun D σ H => t { D with nx := u D } σ H
theorem pss_nil : PSs X [] tNext := fun _ _ σ H _ I h => wpAny_execs_nil ⟨σ, H, I, h⟩
theorem pss_cons (h1 : PS X st t) (h2 : PSs X rest u) : PSs X (st :: rest) (tSeq t u) := by
  intro pins s σ H D I h
  refine wpAny_execs_cons (thn (h1 pins s σ H { D with nx := u D } I h) fun f s1 q => ?_)
  cases f with
  | next =>
    obtain ⟨σ', H', I', q⟩ := q
    exact h2 pins s1 σ' H' D I' q
  | ret v => exact q
  | brk => exact q
  | cont => exact q
theorem pss_one (h1 : PS X st t) : PSs X [st] t := by
  intro pins s σ H D I h
  refine wpAny_execs_cons (thn (h1 pins s σ H D I h) fun f s1 q => ?_)
  cases f with
  | next => exact wpAny_execs_nil q
  | ret v => exact q
  | brk => exact q
  | cont => exact q
theorem Inv.quiet {pins : List (Addr × Obj)} {σ : St} {H : Hp} {s : Shared} (I : Inv X pins σ H s) : interactive X.env = false := by simp [interactive, I.ok.kind]
def tDrop (te : TE) : TS := fun D σ H => te σ H fun _ H1 => D.nx σ H1
theorem ps_expr (he : PE X e te) (hs : swapsWith e none pos.line X.env = pure false := by rfl) : PS X (.Expr e pos) (tDrop te) := by
  intro pins s σ H D I h
  exact wpAny_Expr_any (thn (he pins s σ H _ I h) fun v s1 ⟨x, H1, I1, r1, q1⟩ => ⟨σ, H1, I1, q1⟩) I.quiet hs
def tRet (te : TE) : TS := fun D σ H => te σ H D.rt
theorem ps_ret (he : PE X e te) : PS X (.Return (some e) pos) (tRet te) := by
  intro pins s σ H D I h
  exact wpAny_Return_some (thn (he pins s σ H _ I h) fun v s1 ⟨x, H1, I1, r1, q1⟩ => ⟨x, σ, H1, I1, r1, q1⟩)
def tIfS (c : TT) (t u : TS) : TS := fun D σ H => c σ H fun b H1 => if b = true then t D σ H1 else u D σ H1
theorem ps_if {c : Expr} {a b : List Stmt} {tc : TT} (hc : PT X c tc) (ha : PSs X a t) (hb : PSs X b u) : PS X (.If c a b pos) (tIfS tc t u) := by
  intro pins s σ H D I h
  refine wpAny_If (thn (hc pins s σ H _ I h) fun d s1 ⟨H1, I1, q1⟩ => ?_)
  cases d with
  | true => exact ha pins s1 σ H1 D I1 q1
  | false => exact hb pins s1 σ H1 D I1 q1
def tNever : TS := fun _ _ _ => False
theorem pss_never {sts : List Stmt} : PSs X sts tNever := fun _ _ _ _ _ _ h => h.elim
end
abbrev TG := V → St → Hp → (St → Hp → Prop) → Prop
def PG (X : Cx) (target : Expr) (t : TG) : Prop :=
  ∀ (pins : List (Addr × Obj)) (s : Shared) (σ : St) (H : Hp) (v : V) (u : Value) (Q : St → Hp → Prop), Inv X pins σ H s → RelV v u → t v σ H Q →
    wpAny (model X.prog X.w) X.A (assign target X.env u) (fun _ s' => NP X pins Q s') X.xe s
section
variable {X : Cx} {pos : Pos}
def gName (i : Nat) : TG := fun v σ H Q => Q (σ.set i (some v)) H
theorem pg_name {i : Nat} {x : Str} (hN : X.N.Nodup) (hi : X.N[i]? = some x) (hx : Loc X.env.scope x) (hf : X.fn x = true ∨ X.env.scope.names.lookup x = some .local := by first | exact .inl rfl | exact .inr rfl | assumption) : PG X (.Name x pos) (gName i) := by
  intro pins s σ H v u Q I r h
  exact wpAny_assign_Name (store_ok I hN hi hx r (fun s' I' => ⟨_, H, I', h⟩) hf)
def tAsg (te : TE) (g : TG) : TS := fun D σ H => te σ H fun x H1 => g x σ H1 D.nx
theorem ps_set {i : Nat} {x : Str} {e : Expr} {te : TE} {pos' : Pos} (hN : X.N.Nodup) (hi : X.N[i]? = some x) (hx : Loc X.env.scope x) (he : PE X e te) (hs : swapsWith e (some (.Name x pos')) pos.line X.env = pure false := by rfl) (hf : X.fn x = true ∨ X.env.scope.names.lookup x = some .local := by first | exact .inl rfl | exact .inr rfl | assumption) :
    PS X (.Assign [.Name x pos'] e pos) (tAsg te (gName i)) := by
  intro pins s σ H D I h
  refine wpAny_Assign_Name (thn (he pins s σ H _ I h) fun v s1 ⟨y, H1, I1, r1, q1⟩ => ?_) hs
  exact store_ok I1 hN hi hx r1 (fun s2 I2 => ⟨_, H1, I2, q1⟩) hf
end
section
variable {X : Cx} {pos : Pos}
end
structure It where
  go : Nat → Hp → Prop
  yld : Nat → Hp → V → Hp → Prop
  stop : Nat → Hp → Prop
def FpOk (X : Cx) (pins : List (Addr × Obj)) (H : Hp) (b : Addr) : Prop :=
  H b = none ∧ b ≠ X.env.locals ∧ b ∉ X.fs ∧ (b ∈ X.ex ∨ X.s₀.heap.objs.size ≤ b) ∧ (∀ x c, X.env.cells.lookup x = some c → c ≠ b) ∧ ∀ p ∈ X.pn ++ pins, p.1 ≠ b
theorem Inv.fpOk {X : Cx} {pins : List (Addr × Obj)} {σ : St} {H H' : Hp} {s : Shared} {b : Addr} (I : Inv X pins σ H s) (hb : s.heap.objs.size ≤ b) (hn : H' b = none) : FpOk X pins H' b := by
  refine ⟨hn, Nat.ne_of_gt (Nat.lt_of_lt_of_le I.lt hb), I.nofs hb, .inr (Nat.le_trans I.sz hb), fun x c e z => ?_, fun p hp z => ?_⟩
  · obtain ⟨v, q⟩ := I.cell x c e
    exact absurd (Nat.lt_of_lt_of_le q.lt (by rw [z]; exact hb)) (Nat.lt_irrefl _)
  · exact absurd (Nat.lt_of_lt_of_le (Heap.lt_size (I.pin p hp).1) (by rw [z]; exact hb)) (Nat.lt_irrefl _)
inductive YP (X : Cx) (pins : List (Addr × Obj)) (σ : St) (u : Value) (y : V → Hp → Prop) (tn : Heap → Prop) (fp : List Addr) (s2 : Shared) : Prop
  | mk (x : V) (H' : Hp) (I : Inv X pins σ H' s2) (r : RelV x u) (q : y x H') (st : tn s2.heap) (fr : ∀ b ∈ fp, H' b = none)
structure Turn (P : Program) (w : World) (K : PySem.W.Frag) (tg : Expr) (J : It) (fp : List Addr) (it : Addr) (tn : Nat → Heap → Prop) : Prop where
  mem : it ∈ fp
  obj : ∀ i h, tn i h → ∀ b ∈ fp, ∃ o, h.get? b = some o ∧ ∀ v, o.data ≠ .cell v
  keep : ∀ i h h', tn i h → (∀ b ∈ fp, ∀ o, h.get? b = some o → h'.get? b = some o) → tn i h'
  item : ∀ (X : Cx), X.prog = P → X.w = w → X.K = K → X.calm = true → ∀ (i : Nat) (pins : List (Addr × Obj)) (s : Shared) (σ : St) (H : Hp) (E : Value → Shared → Prop), Inv X pins σ H s → (∀ b ∈ fp, FpOk X pins H b) → tn i s.heap → J.go i H →
    wpAny (model P w) X.A (pyNext (.ref it)) (fun r s1 => ∃ u, r = some u ∧
      wpAny (model P w) X.A (letOwnedTupleGo tg (.ref it) u) (fun _ s2 => YP X pins σ u (J.yld i H) (tn (i + 1)) fp s2) E s1) E s
  done : ∀ (X : Cx), X.prog = P → X.w = w → X.K = K → X.calm = true → ∀ (i : Nat) (pins : List (Addr × Obj)) (s : Shared) (σ : St) (H : Hp) (E : Value → Shared → Prop), Inv X pins σ H s → (∀ b ∈ fp, FpOk X pins H b) → tn i s.heap → J.stop i H →
    wpAny (model P w) X.A (pyNext (.ref it)) (fun r s1 => r = none ∧ Inv X pins σ H s1) E s
  self : ∀ (A : Around) (i : Nat) (s : Shared) (Q : Value → Shared → Prop) (E : Value → Shared → Prop), tn i s.heap → Q (.ref it) s → wpAny (model P w) A (pyIter (.ref it)) Q E s
abbrev TI := St → Hp → (It → Hp → Prop) → Prop
inductive PIE (X : Cx) (pins : List (Addr × Obj)) (σ : St) (tg : Expr) (R : It → Hp → Prop) (itv : Value) (s2 : Shared) : Prop
  | mk (it : Addr) (fp : List Addr) (tn : Nat → Heap → Prop) (J : It) (H' : Hp) (e : itv = .ref it) (I : Inv X pins σ H' s2) (T : Turn X.prog X.w X.K tg J fp it tn) (st : tn 0 s2.heap) (f : ∀ b ∈ fp, FpOk X pins H' b) (q : R J H')
def PI (X : Cx) (tg iter : Expr) (wi : TI) : Prop :=
  ∀ (pins : List (Addr × Obj)) (s : Shared) (σ : St) (H : Hp) (R : It → Hp → Prop), Inv X pins σ H s → wi σ H R →
    wpAny (model X.prog X.w) X.A (eval iter X.env) (fun v s1 => wpAny (model X.prog X.w) X.A (pyIter v) (PIE X pins σ tg R) X.xe s1) X.xe s
theorem go_of {M : Model} {A : Around} {E : Value → Shared → Prop} {s : Shared} {tg : Expr} {it : Addr} {u : Value} {o : Obj} {n : String} {vs : Array Value} {Q : Unit → Shared → Prop} (ho : s.heap.get? it = some o) (hc : o.cls = .type n) (hd : o.data = .fields vs)
    (hn : ["enumerate", "zip", "dict_itemiterator", "dict_reverseitemiterator", "odict_iterator", "itertools.zip_longest", "itertools.pairwise"].contains n = false) (hQ : Q () s) : wpAny M A (letOwnedTupleGo tg (.ref it) u) Q E s := by
  unfold letOwnedTupleGo
  cases tg <;> first
    | exact wpAny_pure hQ
    | (cases u <;> first
        | exact wpAny_pure hQ
        | (refine wpAny_bind (wpAny_load ho ?_)
           rw [hc, hd]
           show wpAny M A (if (["enumerate", "zip", "dict_itemiterator", "dict_reverseitemiterator", "odict_iterator", "itertools.zip_longest", "itertools.pairwise"].contains n && vs[0]? == some (rawInt _)) = true then _ else _) Q E s
           rw [if_neg (by intro h; rw [hn, Bool.false_and] at h; injection h)]
           exact wpAny_pure hQ))
def Itl (K : PySem.W.Frag) (a : Addr) : It :=
  ⟨fun i H => ∃ xs x, SqL K H a xs ∧ xs[i]? = some x, fun i H x H' => H' = H ∧ ∀ xs, SqL K H a xs → xs[i]? = some x, fun i H => ∃ xs, SqL K H a xs ∧ xs.length ≤ i⟩
def Itt (K : PySem.W.Frag) (a : Addr) : It :=
  ⟨fun i H => ∃ xs x, SqT K H a xs ∧ xs[i]? = some x, fun i H x H' => H' = H ∧ ∀ xs, SqT K H a xs → xs[i]? = some x, fun i H => ∃ xs, SqT K H a xs ∧ xs.length ≤ i⟩
def Itr (lo : Int) (n : Nat) : It := ⟨fun i _ => i < n, fun i H x H' => H' = H ∧ x = .int (lo + i), fun i _ => n ≤ i⟩
theorem turn_list {P : Program} {w : World} {K : PySem.W.Frag} {tg : Expr} (a it : Addr) : Turn P w K tg (Itl K a) [it] it (fun i h => h.IsListIter it a i) where
  mem := by simp
  obj := fun i h st b hb => by
    have e : b = it := by simpa using hb
    subst e
    obtain ⟨o, e, c, d⟩ := st
    exact ⟨o, e, fun v z => by rw [d] at z; injection z⟩
  keep := fun i h h' st k => st.at fun o e => k it (by simp) o e
  item := by
    intro X hP hw hK hc i pins s σ H E I hf st hg
    subst hP hw hK
    obtain ⟨xs, x, hq, hx⟩ := hg
    obtain ⟨its, rv, p, hz⟩ := I.list hq
    obtain ⟨u, hu, ru⟩ := rv.get hx
    obtain ⟨f0, f1, f2, f3, f4, f5⟩ := hf it (by simp)
    refine wpAny_pyNext_list_item st p.isList (x := u) (by simpa using hu) fun h' st' sb => ?_
    have I1 : Inv X pins σ H { s with heap := h' } := I.turned (t' := s.toks) (fun b o hb e => (sb.2 b hb).trans e) f0 f1 f3 f4 f5
    obtain ⟨o, e, c, d⟩ := id st'
    exact ⟨u, rfl, go_of (s := { s with heap := h' }) e c d (by decide) ⟨x, H, I1, ru, ⟨rfl, fun ys hy => by rw [I.list_inj hy hq]; exact hx⟩, st', fun b hb => (hf b hb).1⟩⟩
  done := by
    intro X hP hw hK hc i pins s σ H E I hf st hg
    subst hP hw hK
    obtain ⟨xs, hq, hx⟩ := hg
    obtain ⟨its, rv, p, hz⟩ := I.list hq
    obtain ⟨f0, f1, f2, f3, f4, f5⟩ := hf it (by simp)
    have hl := rv.length
    exact wpAny_pyNext_list_end (I.ok.hd hc) st p.isList (by simp; omega) fun h' eb => ⟨rfl, I.turned (t' := s.toks) (fun b o hb e => eb b o hb e) f0 f1 f3 f4 f5⟩
  self := fun _ _ _ _ _ st h => wpAny_pyIter_listiter st h
theorem turn_tuple {P : Program} {w : World} {K : PySem.W.Frag} {tg : Expr} (a it : Addr) : Turn P w K tg (Itt K a) [it] it (fun i h => h.IsTupleIter it a i) where
  mem := by simp
  obj := fun i h st b hb => by
    have e : b = it := by simpa using hb
    subst e
    obtain ⟨o, e, c, d⟩ := st
    exact ⟨o, e, fun v z => by rw [d] at z; injection z⟩
  keep := fun i h h' st k => st.at fun o e => k it (by simp) o e
  item := by
    intro X hP hw hK hc i pins s σ H E I hf st hg
    subst hP hw hK
    obtain ⟨xs, x, hq, hx⟩ := hg
    obtain ⟨its, rv, p, hz⟩ := I.tuple hq
    obtain ⟨u, hu, ru⟩ := rv.get hx
    obtain ⟨f0, f1, f2, f3, f4, f5⟩ := hf it (by simp)
    refine wpAny_pyNext_tuple_item st (show s.heap.IsTuple a its.toArray from p) (x := u) (by simpa using hu) fun h' st' sb => ?_
    have I1 : Inv X pins σ H { s with heap := h' } := I.turned (t' := s.toks) (fun b o hb e => (sb.2 b hb).trans e) f0 f1 f3 f4 f5
    obtain ⟨o, e, c, d⟩ := id st'
    exact ⟨u, rfl, go_of (s := { s with heap := h' }) e c d (by decide) ⟨x, H, I1, ru, ⟨rfl, fun ys hy => by rw [I.tuple_inj hy hq]; exact hx⟩, st', fun b hb => (hf b hb).1⟩⟩
  done := by
    intro X hP hw hK hc i pins s σ H E I hf st hg
    subst hP hw hK
    obtain ⟨xs, hq, hx⟩ := hg
    obtain ⟨its, rv, p, hz⟩ := I.tuple hq
    obtain ⟨f0, f1, f2, f3, f4, f5⟩ := hf it (by simp)
    have hl := rv.length
    exact wpAny_pyNext_tuple_end (I.ok.hd hc) st (show s.heap.IsTuple a its.toArray from p) (by simp; omega) fun h' eb => ⟨rfl, I.turned (t' := s.toks) (fun b o hb e => eb b o hb e) f0 f1 f3 f4 f5⟩
  self := fun _ _ _ _ _ st h => wpAny_pyIter_tupleiter st h
theorem turn_range {P : Program} {w : World} {K : PySem.W.Frag} {tg : Expr} (it : Addr) (lo : Int) (n : Nat) : Turn P w K tg (Itr lo n) [it] it (fun i h => IsRangeIter h it (lo + (i : Nat) * 1) ((n : Int) - (i : Nat)) 1) where
  mem := by simp
  obj := fun i h st b hb => by
    have e : b = it := by simpa using hb
    subst e
    exact ⟨_, st, fun v z => by
      have z' : Data.fields _ = Data.cell v := z
      injection z'⟩
  keep := fun i h h' st k => k it (by simp) _ st
  item := by
    intro X hP hw hK hc i pins s σ H E I hf st hg
    subst hP hw hK
    obtain ⟨f0, f1, f2, f3, f4, f5⟩ := hf it (by simp)
    have W := Walks.range (prog := X.prog) (w := X.w) (I.ok.hd hc) it lo 1 n
    refine W.item i s _ _ hg st fun v h' tk hv st' kk => ?_
    obtain ⟨t, rfl⟩ := hv
    have I1 : Inv X pins σ H { s with heap := h', toks := tk } := I.turned (fun b o hb e => kk b o (by simpa using hb) e) f0 f1 f3 f4 f5
    refine ⟨_, rfl, go_of (s := { s with heap := h', toks := tk }) (n := "range_iterator") st' rfl rfl (by decide) ⟨.int (lo + i), H, I1, ⟨t, ?_⟩, ⟨rfl, rfl⟩, st', fun b hb => (hf b hb).1⟩⟩
    rw [Int.mul_one]
  done := by
    intro X hP hw hK hc i pins s σ H E I hf st hg
    subst hP hw hK
    obtain ⟨f0, f1, f2, f3, f4, f5⟩ := hf it (by simp)
    exact wpAny_pyNext_range_end (I.ok.hd hc) st (by have : n ≤ i := hg; omega) fun h' eb => ⟨rfl, I.turned (t' := s.toks) (fun b o hb e => eb b o hb e) f0 f1 f3 f4 f5⟩
  self := fun _ _ _ _ _ st h => wpAny_pyIter_rangeiter st h
section
variable {X : Cx} {tg : Expr}
def iList (K : PySem.W.Frag) (tl : TE) : TI := fun σ H R => tl σ H fun x H1 => ∃ a, x = .ref a ∧ (∃ xs, SqL K H1 a xs) ∧ R (Itl K a) H1
def iTup (K : PySem.W.Frag) (tl : TE) : TI := fun σ H R => tl σ H fun x H1 => ∃ a, x = .ref a ∧ (∃ xs, SqT K H1 a xs) ∧ R (Itt K a) H1
theorem pi_list {l : Expr} {tl : TE} (hl : PE X l tl) : PI X tg l (iList X.K tl) := by
  intro pins s σ H R I h
  refine thn (hl pins s σ H _ I h) fun v s1 ⟨x, H1, I1, r1, q1⟩ => ?_
  obtain ⟨a, e, ⟨xs, hq⟩, q⟩ := q1
  subst e
  subst r1
  obtain ⟨its, rv, p, hz⟩ := I1.list hq
  refine wpAny_pyIter_list p.isList ?_
  refine ⟨s1.heap.objs.size, [s1.heap.objs.size], _, _, H1, rfl, I1.kept (t' := s1.toks) fun b o e => Heap.get?_push_of_some _ e, turn_list a _, ⟨_, Heap.get?_push_size _ rfl, rfl, rfl⟩, fun b hb => ?_, q⟩
  have e : b = s1.heap.objs.size := by simpa using hb
  subst e
  exact I1.fpOk (Nat.le_refl _) (I1.hok.fresh (Nat.le_refl _))
theorem pi_tup {l : Expr} {tl : TE} (hl : PE X l tl) : PI X tg l (iTup X.K tl) := by
  intro pins s σ H R I h
  refine thn (hl pins s σ H _ I h) fun v s1 ⟨x, H1, I1, r1, q1⟩ => ?_
  obtain ⟨a, e, ⟨xs, hq⟩, q⟩ := q1
  subst e
  subst r1
  obtain ⟨its, rv, p, hz⟩ := I1.tuple hq
  refine wpAny_pyIter_tuple (show s1.heap.IsTuple a its.toArray from p) ?_
  refine ⟨s1.heap.objs.size, [s1.heap.objs.size], _, _, H1, rfl, I1.kept (t' := s1.toks) fun b o e => Heap.get?_push_of_some _ e, turn_tuple a _, ⟨_, Heap.get?_push_size _ rfl, rfl, rfl⟩, fun b hb => ?_, q⟩
  have e : b = s1.heap.objs.size := by simpa using hb
  subst e
  exact I1.fpOk (Nat.le_refl _) (I1.hok.fresh (Nat.le_refl _))
theorem range_it {pins : List (Addr × Obj)} {σ : St} {H : Hp} {s : Shared} {R : It → Hp → Prop} {E : Value → Shared → Prop} {lo hi : Int} {t u v : Tok} {tk : Nat} (I : Inv X pins σ H s) (h1 : -(2 ^ 62) ≤ lo) (h2 : lo < 2 ^ 62) (h3 : -(2 ^ 62) ≤ hi) (h4 : hi < 2 ^ 62)
    (q : R (Itr lo (hi - lo).toNat) H) : wpAny (model X.prog X.w) X.A (pyIter (.ref s.heap.objs.size)) (PIE X pins σ tg R) E { s with heap := s.heap.push { cls := .type "range", data := .fields #[.int lo t, .int hi u, .int 1 v] }, toks := tk } := by
  refine wpAny_pyIter_range (IsRange.new ..) (small_one h1 h2 h3 h4) ?_
  have I1 : Inv X pins σ H { s with heap := s.heap.push { cls := .type "range", data := .fields #[.int lo t, .int hi u, .int 1 v] }, toks := tk } := I.kept fun b o e => Heap.get?_push_of_some _ e
  refine ⟨(s.heap.push { cls := .type "range", data := .fields #[.int lo t, .int hi u, .int 1 v] }).objs.size, [(s.heap.push { cls := .type "range", data := .fields #[.int lo t, .int hi u, .int 1 v] }).objs.size], _, _, H, rfl,
    I1.kept (t' := tk) fun b o e => Heap.get?_push_of_some _ e, turn_range _ lo (hi - lo).toNat, ?_, fun b hb => ?_, q⟩
  · have e1 : lo + ((0 : Nat) : Int) * 1 = lo := by simp
    have e2 : (((hi - lo).toNat : Nat) : Int) - ((0 : Nat) : Int) = Builtin.Range.rangeSize lo hi 1 := by rw [rangeSize_one]; split <;> omega
    show IsRangeIter _ _ (lo + ((0 : Nat) : Int) * 1) ((((hi - lo).toNat : Nat) : Int) - ((0 : Nat) : Int)) 1
    rw [e1, e2]
    exact Heap.get?_push_size _ rfl
  · have e : b = (s.heap.push { cls := .type "range", data := .fields #[.int lo t, .int hi u, .int 1 v] }).objs.size := by simpa using hb
    subst e
    exact I1.fpOk (Nat.le_refl _) (I1.hok.fresh (Nat.le_refl _))
def iRng1 (ta : TA) : TI := fun σ H R => ta σ H fun vs H1 => ∃ j : Int, vs = [.int j] ∧ -(2 ^ 62) ≤ j ∧ j < 2 ^ 62 ∧ R (Itr 0 j.toNat) H1
theorem pi_range1 {a : Expr} {ta : TA} {p pos : Pos} (hg : Gl X "range") (hm : X.mg "range" = none) (ha : PA X [a] ta) (hs : starEach [a] X.env = [(false, eval a X.env)] := by rfl) : PI X tg (.Call (.Name "range" p) [a] [] pos) (iRng1 ta) := by
  intro pins s σ H R I h
  refine Call_ (ld_blt I hg hm boot_range (PyProof.Rows.callWith_type1 (thn (ha pos pins s σ H _ I h) fun us s1 ⟨vs, H1, I1, r1, q1⟩ => ?_) hs rfl))
  obtain ⟨j, e, q1, q2, q⟩ := q1
  subst e
  cases r1 with
  | cons r rr =>
    cases rr
    obtain ⟨t, rfl⟩ := r
    exact call_range_1 (range_it I1 (by decide) (by decide) q1 q2 (by simpa using q))
def tFor (wi : TI) (g : TG) (tb : TS) : TS := fun D σ H => wi σ H fun J H1 => ∃ W : Nat → Nat → St → Hp → Prop, (∃ m, W 0 m σ H1) ∧ ∀ i m σ H, W i m σ H →
  (J.stop i H ∧ D.nx σ H) ∨ (J.go i H ∧ ∃ N : St → Hp → Prop, (∀ σ' H', N σ' H' → ∃ m', m' < m ∧ W (i + 1) m' σ' H') ∧ ∀ x H', J.yld i H x H' → g x σ H' fun σ2 H2 => tb { D with nx := N, ct := N, bk := D.nx } σ2 H2)
def pinsAt (fp : List Addr) (h : Heap) : List (Addr × Obj) := fp.filterMap fun b => (h.get? b).map fun o => (b, o)
theorem mem_pinsAt {fp : List Addr} {h : Heap} {b : Addr} {o : Obj} (hb : b ∈ fp) (e : h.get? b = some o) : (b, o) ∈ pinsAt fp h := List.mem_filterMap.mpr ⟨b, hb, by rw [e]; rfl⟩
theorem of_pinsAt {fp : List Addr} {h : Heap} {p : Addr × Obj} (hp : p ∈ pinsAt fp h) : p.1 ∈ fp ∧ h.get? p.1 = some p.2 := by
  obtain ⟨b, hb, e⟩ := List.mem_filterMap.mp hp
  cases q : h.get? b with
  | none => rw [q] at e; injection e
  | some o =>
    rw [q] at e
    have e' : (b, o) = p := Option.some.inj e
    subst e'
    exact ⟨hb, q⟩
theorem Inv.pinned {pins : List (Addr × Obj)} {σ : St} {H : Hp} {s : Shared} {fp : List Addr} (I : Inv X pins σ H s) (hf : ∀ b ∈ fp, FpOk X pins H b) (ho : ∀ b ∈ fp, ∃ o, s.heap.get? b = some o ∧ ∀ v, o.data ≠ .cell v) : Inv X (pins ++ pinsAt fp s.heap) σ H s :=
  I.pins_of fun p hp => (List.mem_append.mp hp).elim (fun z => I.pin p (List.mem_append_right _ z)) fun z => by
    obtain ⟨hb, e⟩ := of_pinsAt z
    obtain ⟨f0, f1, f2, _⟩ := hf p.1 hb
    obtain ⟨o, e', d⟩ := ho p.1 hb
    rw [e] at e'; (injection e' with e'; subst e')
    exact ⟨e, f0, f1, f2, d⟩
theorem Inv.unpinned {pins pl : List (Addr × Obj)} {σ : St} {H : Hp} {s : Shared} (I : Inv X (pins ++ pl) σ H s) : Inv X pins σ H s := I.pins_of fun p hp => I.pin p (List.mem_append_right _ (List.mem_append_left _ hp))
inductive FI (X : Cx) (pins : List (Addr × Obj)) (tn : Nat → Heap → Prop) (fp : List Addr) (W : Nat → Nat → St → Hp → Prop) (n : Nat) (s : Shared) : Prop
  | mk (i : Nat) (σ : St) (H : Hp) (I : Inv X pins σ H s) (st : tn i s.heap) (fr : ∀ b ∈ fp, H b = none) (w : W i n σ H)
theorem ps_for {iter : Expr} {body : List Stmt} {wi : TI} {g : TG} {tb : TS} {pos : Pos} (hp : PassesOwn (model X.prog X.w) X.A X.env X.xe) (hc : X.calm = true) (hi : PI X tg iter wi) (hg : PG X tg g) (hb : PSs X body tb)
    (hs : ∀ x, foldedSetIterable iter X.env x = pure x := by intro _; rfl) : PS X (.For tg iter body [] pos) (tFor wi g tb) := by
  intro pins s σ H D I h
  refine wpAny_For (thn (hi pins s σ H _ I h) fun v s1 h1 => thn h1 fun itv s2 h2 => ?_) hs
  obtain ⟨it, fp, tn, J, H2, e, I2, T, st2, f2, W, ⟨m0, w0⟩, turn⟩ := h2
  subst e
  have stat : ∀ {H' : Hp}, (∀ b ∈ fp, H' b = none) → ∀ b ∈ fp, FpOk X pins H' b := fun hn b hb => ⟨hn b hb, (f2 b hb).2⟩
  refine codeAny_forLoop_any (FI X pins tn fp W) ?_ m0 ⟨0, σ, H2, I2, st2, fun b hb => (f2 b hb).1, w0⟩
  rintro n s3 ⟨i, σ3, H3, I3, st3, fr3, w3⟩
  rcases turn i n σ3 H3 w3 with ⟨stop, qn⟩ | ⟨go, N, hN, step⟩
  · refine wpAny_passesOwn hp (thn (T.done X rfl rfl rfl hc i pins s3 σ3 H3 X.xe I3 (stat fr3) st3 stop) fun r s4 ⟨hr, I4⟩ => ?_)
    subst hr
    exact wpAny_execs_nil ⟨σ3, H3, I4, qn⟩
  · refine wpAny_passesOwn hp (thn (T.item X rfl rfl rfl hc i pins s3 σ3 H3 X.xe I3 (stat fr3) st3 go) fun r s4 ⟨u, hr, h4⟩ => ?_)
    subst hr
    refine wpAny_passesOwn hp (thn h4 fun _ s5 ⟨x, H5, I5, r5, y5, st5, fr5⟩ => ?_)
    have I5' := I5.pinned (stat fr5) (T.obj _ _ st5)
    refine wpAny_passesOwn hp (thn (hg _ s5 σ3 H5 x u _ I5' r5 (step x H5 y5)) fun _ s6 ⟨σ6, H6, I6, q6⟩ => ?_)
    refine wpAny_passesOwn hp (thn (hb _ s6 σ6 H6 _ I6 q6) fun f s7 q7 => ?_)
    have again : ∀ {σ7 : St} {H7 : Hp}, Inv X (pins ++ pinsAt fp s5.heap) σ7 H7 s7 → N σ7 H7 → ∃ m, m < n ∧ FI X pins tn fp W m s7 := fun {σ7 H7} I7 n7 => by
      obtain ⟨m', hm, w7⟩ := hN σ7 H7 n7
      refine ⟨m', hm, i + 1, σ7, H7, I7.unpinned, T.keep _ _ _ st5 fun b hb o e => (I7.pin (b, o) (List.mem_append_right _ (List.mem_append_right _ (mem_pinsAt hb e)))).1, fun b hb => ?_, w7⟩
      obtain ⟨o, e, d⟩ := T.obj _ _ st5 b hb
      exact (I7.pin (b, o) (List.mem_append_right _ (List.mem_append_right _ (mem_pinsAt hb e)))).2.1
    cases f with
    | next => obtain ⟨σ7, H7, I7, n7⟩ := q7; exact again I7 n7
    | cont => obtain ⟨σ7, H7, I7, n7⟩ := q7; exact again I7 n7
    | brk => obtain ⟨σ7, H7, I7, q7⟩ := q7; exact ⟨σ7, H7, I7.unpinned, q7⟩
    | ret v => obtain ⟨x7, σ7, H7, I7, r7, q7⟩ := q7; exact ⟨x7, σ7, H7, I7.unpinned, r7, q7⟩
end
abbrev R2 := V → V → Hp → VK → Prop
def OpR (X : Cx) (f : Value → Value → Sem Value) (r : R2) : Prop :=
  ∀ (pins : List (Addr × Obj)) (s : Shared) (σ : St) (H : Hp) (x y : V) (v u : Value) (Q : VK), Inv X pins σ H s → RelV x v → RelV y u → r x y H Q →
    wpAny (model X.prog X.w) X.A (f v u) (EP X pins σ Q) X.xe s
def CallR (X : Cx) (f : Value) (r : List V → Hp → VK → Prop) : Prop :=
  ∀ (pins : List (Addr × Obj)) (s : Shared) (σ : St) (H : Hp) (xs : List V) (us : List Value) (Q : VK), Inv X pins σ H s → Vals xs us → r xs H Q →
    wpAny (model X.prog X.w) X.A (call f us) (EP X pins σ Q) X.xe s
def TruR (X : Cx) (r : V → Hp → (Bool → Hp → Prop) → Prop) : Prop :=
  ∀ (pins : List (Addr × Obj)) (s : Shared) (σ : St) (H : Hp) (x : V) (v : Value) (Q : Bool → Hp → Prop), Inv X pins σ H s → RelV x v → r x H Q →
    wpAny (model X.prog X.w) X.A (truthy v) (TP X pins σ Q) X.xe s
def tOp (r : R2) (ta tb : TE) : TE := fun σ H Q => ta σ H fun x H1 => tb σ H1 fun y H2 => r x y H2 Q
def rI (C : Int → Int → Prop) (g : Int → Int → V) : R2 := fun x y H Q => ∃ i j, x = .int i ∧ y = .int j ∧ C i j ∧ Q (g i j) H
def rI0 (g : Int → Int → V) : R2 := fun x y H Q => ∃ i j, x = .int i ∧ y = .int j ∧ Q (g i j) H
section
variable {X : Cx} {a b c : Expr} {ta tb tc : TE} {pos : Pos}
theorem binT (ha : PE X a ta) (hb : PE X b tb) {pins : List (Addr × Obj)} {s : Shared} {σ : St} {H : Hp} {R : V → V → Hp → Prop} (I : Inv X pins σ H s)
    (h : ta σ H fun x H1 => tb σ H1 fun y H2 => R x y H2) {Q : Value → Shared → Prop} {f : Value → Value → Sem Value}
    (hf : ∀ v u s2 x y H2, Inv X pins σ H2 s2 → RelV x v → RelV y u → R x y H2 → wpAny (model X.prog X.w) X.A (f v u) Q X.xe s2) :
    wpAny (model X.prog X.w) X.A (eval a X.env) (fun v s₁ => wpAny (model X.prog X.w) X.A (eval b X.env) (fun u s₂ => wpAny (model X.prog X.w) X.A (f v u) Q X.xe s₂) X.xe s₁) X.xe s := by
  refine thn (ha pins s σ H _ I h) fun v s1 ⟨x, H1, I1, r1, q1⟩ => ?_
  refine thn (hb pins s1 σ H1 _ I1 q1) fun u s2 ⟨y, H2, I2, r2, q2⟩ => ?_
  exact hf v u s2 x y H2 I2 r1 r2 q2
theorem pe_op {op : Operator} {r : R2} (ho : OpR X (binaryOp op) r) (ha : PE X a ta) (hb : PE X b tb) : PE X (.BinOp a op b pos) (tOp r ta tb) := by
  intro pins s σ H Q I h
  exact wpAny_BinOp (binT ha hb I h fun v u s2 x y H2 I2 rx ry q => ho pins s2 σ H2 x y v u Q I2 rx ry q)
theorem opI {f : Value → Value → Sem Value} {C : Int → Int → Prop} {g : Int → Int → Int}
    (rule : ∀ (i j : Int) (t u : Tok) (s : Shared) (Q : Value → Shared → Prop) (E : Value → Shared → Prop), C i j → Q (.int (g i j) s.toks) { s with toks := s.toks + 1 } → wpAny (model X.prog X.w) X.A (f (.int i t) (.int j u)) Q E s) :
    OpR X f (rI C fun i j => .int (g i j)) := by
  intro pins s σ H x y v u Q I rx ry h
  obtain ⟨i, j, rfl, rfl, hc, q⟩ := h
  obtain ⟨t, rfl⟩ := rx
  obtain ⟨t', rfl⟩ := ry
  exact rule i j t t' s _ _ hc ⟨.int (g i j), H, I.tok _, ⟨_, rfl⟩, q⟩
theorem opI0 {f : Value → Value → Sem Value} {g : Int → Int → Int}
    (rule : ∀ (i j : Int) (t u : Tok) (s : Shared) (Q : Value → Shared → Prop) (E : Value → Shared → Prop), Q (.int (g i j) s.toks) { s with toks := s.toks + 1 } → wpAny (model X.prog X.w) X.A (f (.int i t) (.int j u)) Q E s) :
    OpR X f (rI0 fun i j => .int (g i j)) := by
  intro pins s σ H x y v u Q I rx ry h
  obtain ⟨i, j, rfl, rfl, q⟩ := h
  obtain ⟨t, rfl⟩ := rx
  obtain ⟨t', rfl⟩ := ry
  exact rule i j t t' s _ _ ⟨.int (g i j), H, I.tok _, ⟨_, rfl⟩, q⟩
theorem opB0 {f : Value → Value → Sem Value} {g : Int → Int → Bool}
    (rule : ∀ (i j : Int) (t u : Tok) (s : Shared) (Q : Value → Shared → Prop) (E : Value → Shared → Prop), Q (.bool (g i j)) s → wpAny (model X.prog X.w) X.A (f (.int i t) (.int j u)) Q E s) :
    OpR X f (rI0 fun i j => .bl (g i j)) := by
  intro pins s σ H x y v u Q I rx ry h
  obtain ⟨i, j, rfl, rfl, q⟩ := h
  obtain ⟨t, rfl⟩ := rx
  obtain ⟨t', rfl⟩ := ry
  exact rule i j t t' s _ _ ⟨.bl (g i j), H, I, rfl, q⟩
def CDiv (i j : Int) : Prop := 0 < j ∧ j < 1073741824
def CPow (i j : Int) : Prop := 0 ≤ j ∧ j ≤ 1000000 ∧ i.natAbs < 2 ^ 64
def CMul (i j : Int) : Prop := (-(2 ^ 64) < i ∧ i < 2 ^ 64) ∨ (-(2 ^ 64) < j ∧ j < 2 ^ 64)
theorem CMul.ok {i j : Int} (h : CMul i j) : IntMulOk i j := by
  rcases h with ⟨h1, h2⟩ | ⟨h1, h2⟩
  · exact .of_left (intBits_le_64 h1 h2)
  · exact .of_right (intBits_le_64 h1 h2)
theorem op_add : OpR X (binaryOp .Add) (rI0 fun i j => .int (i + j)) := opI0 fun _ _ _ _ _ _ _ q => add_int q
theorem op_sub : OpR X (binaryOp .Sub) (rI0 fun i j => .int (i - j)) := opI0 fun _ _ _ _ _ _ _ q => sub_int q
theorem op_mul : OpR X (binaryOp .Mult) (rI CMul fun i j => .int (i * j)) := opI fun _ _ _ _ _ _ _ hc q => mul_int q hc.ok
theorem op_fdiv : OpR X (binaryOp .FloorDiv) (rI CDiv fun i j => .int (i / j)) := opI fun i j _ _ _ _ _ hc q => by
  have h1 : (0 : Int) < j := hc.1
  have h2 : j < 1073741824 := hc.2
  exact floordiv_int (by omega) (by rw [Int.fdiv_eq_ediv_of_nonneg i (by exact Int.le_of_lt ‹_›)]; exact q) (.inl (PyProof.noPylong_small (by omega)))
theorem op_mod : OpR X (binaryOp .Mod) (rI (fun _ j => 0 < j) fun i j => .int (i % j)) := opI fun i j _ _ _ _ _ hc q => by
  have h1 : (0 : Int) < j := hc
  exact mod_int' (by omega) (by rw [Int.fmod_eq_emod_of_nonneg i (by exact Int.le_of_lt ‹_›)]; exact q)
theorem op_pow : OpR X (binaryOp .Pow) (rI CPow fun i j => .int (i ^ j.toNat)) := opI fun _ _ _ _ _ _ _ hc q => pow_int_small hc.1 hc.2.1 hc.2.2 q
end
section
variable {X : Cx} {a b c : Expr} {ta tb tc : TE} {pos : Pos}
theorem fin_bl {pins : List (Addr × Obj)} {σ : St} {H : Hp} {s : Shared} {Q : VK} {k k' : Bool} (I : Inv X pins σ H s) (q : Q (.bl k) H) (e : k = k') : EP X pins σ Q (.bool k') s := by
  subst e
  exact ⟨.bl k, H, I, rfl, q⟩
theorem op_lt : OpR X (compareOp .Lt) (rI0 fun i j => .bl (decide (i < j))) := opB0 fun _ _ _ _ _ _ _ q => lt_int q
theorem op_le : OpR X (compareOp .LtE) (rI0 fun i j => .bl (decide (i ≤ j))) := opB0 fun _ _ _ _ _ _ _ q => le_int q
theorem op_gt : OpR X (compareOp .Gt) (rI0 fun i j => .bl (decide (j < i))) := opB0 fun _ _ _ _ _ _ _ q => gt_int q
theorem op_ge : OpR X (compareOp .GtE) (rI0 fun i j => .bl (decide (j ≤ i))) := opB0 fun _ _ _ _ _ _ _ q => ge_int q
theorem op_isN : OpR X (compareOp .Is) (fun x y H Q => y = .non ∧ Q (.bl (decide (x = .non))) H) := by
  intro pins s σ H x y v u Q I rx ry h
  obtain ⟨rfl, q⟩ := h
  subst ry
  refine is_none_gen (fin_bl I q ?_)
  cases x <;> first
    | (cases rx; rfl)
    | (obtain ⟨t, rfl⟩ := rx; rfl)
theorem op_notN : OpR X (compareOp .IsNot) (fun x y H Q => y = .non ∧ Q (.bl (!decide (x = .non))) H) := by
  intro pins s σ H x y v u Q I rx ry h
  obtain ⟨rfl, q⟩ := h
  subst ry
  refine isnot_none_gen (fin_bl I q ?_)
  cases x <;> first
    | (cases rx; rfl)
    | (obtain ⟨t, rfl⟩ := rx; rfl)
theorem pe_cmpR {op : CmpOp} {r : R2} (ho : OpR X (compareOp op) r) (ha : PE X a ta) (hb : PE X b tb) (hm : behindInMarks op b = false) : PE X (.Compare a [op] [b] pos) (tOp r ta tb) := by
  intro pins s σ H Q I h
  exact wpAny_Compare1 (binT ha hb I h fun v u s2 x y H2 I2 rx ry q => ho pins s2 σ H2 x y v u Q I2 rx ry q) hm
def tTest (t : TE) : TT := fun σ H Q => t σ H fun x H' => ∃ k, x = .bl k ∧ Q k H'
theorem pt_cmpR {op : CmpOp} {r : R2} (ho : OpR X (compareOp op) r) (ha : PE X a ta) (hb : PE X b tb) (hm : behindInMarks op b = false) : PT X (.Compare a [op] [b] pos) (tTest (tOp r ta tb)) := by
  intro pins s σ H Q I h
  refine wpAny_isTrue_Compare1 (thn (ha pins s σ H _ I h) fun v s1 ⟨x, H1, I1, r1, q1⟩ => thn (hb pins s1 σ H1 _ I1 q1) fun u s2 ⟨y, H2, I2, r2, q2⟩ =>
    thn (ho pins s2 σ H2 x y v u _ I2 r1 r2 q2) fun c s3 ⟨z, H3, I3, r3, k, e, q3⟩ => ?_) hm
  subst e
  subst r3
  exact wpAny_truthy_bool ⟨H3, I3, q3⟩
def TruV (K : PySem.W.Frag) (x : V) (H : Hp) (k : Bool) : Prop :=
  match x with
  | .non => k = false
  | .bl b => k = b
  | .int i => k = (i != 0)
  | .str y => y.length ≤ sizeLine ∧ k = ((y.length : Int) != 0)
  | .byt y => y.size ≤ sizeLine ∧ k = ((y.size : Int) != 0)
  | .ref p => (∃ xs, SqL K H p xs ∧ k = !xs.isEmpty) ∨ (∃ xs, SqT K H p xs ∧ k = !xs.isEmpty) ∨ ∃ kvs, H p = some (.dK kvs) ∧ k = !kvs.isEmpty
  | _ => False
theorem isEmpty_kv {κ : Type} {kvs : List (κ × V)} {vs : List (κ × Value)} (r : KV kvs vs) : (!vs.isEmpty) = !kvs.isEmpty := by
  cases r <;> rfl
theorem isEmpty_of {xs : List V} {its : List Value} (r : Vals xs its) : (!its.toArray.isEmpty) = !xs.isEmpty := by
  cases r <;> simp
theorem line63 : (sizeLine : Nat) < 2 ^ 63 := by rw [sizeLine_eq]; decide
theorem tru_ok : TruR X (fun x H Q => ∃ k, TruV X.K x H k ∧ Q k H) := by
  intro pins s σ H x v Q I rx h
  obtain ⟨k, e, q⟩ := h
  have hl := line63
  have hs : sizeLine = 16777216 := sizeLine_eq
  cases x with
  | non =>
    subst rx
    have e' : k = false := e
    subst e'
    exact truthy_none ⟨H, I, q⟩
  | bl b =>
    subst rx
    have e' : k = b := e
    subst e'
    exact wpAny_truthy_bool ⟨H, I, q⟩
  | int i =>
    obtain ⟨t, rfl⟩ := rx
    have e' : k = (i != 0) := e
    subst e'
    exact PySem.P.truthy_int ⟨H, I, q⟩
  | str y =>
    obtain ⟨t, rfl⟩ := rx
    obtain ⟨hy, e'⟩ : y.length ≤ sizeLine ∧ k = ((y.length : Int) != 0) := e
    subst e'
    exact PySem.P.truthy_str (by omega) ⟨H, I.tok _, q⟩
  | byt y =>
    obtain ⟨t, rfl⟩ := rx
    obtain ⟨hy, e'⟩ : y.size ≤ sizeLine ∧ k = ((y.size : Int) != 0) := e
    subst e'
    exact PySem.W.truthy_bytes (by exact Nat.le_trans ‹_› (by decide)) ⟨H, I.tok _, q⟩
  | ref p =>
    subst rx
    have e' : (∃ xs, SqL X.K H p xs ∧ k = !xs.isEmpty) ∨ (∃ xs, SqT X.K H p xs ∧ k = !xs.isEmpty) ∨ ∃ kvs, H p = some (.dK kvs) ∧ k = !kvs.isEmpty := e
    rcases e' with ⟨xs, hx, e'⟩ | ⟨xs, hx, e'⟩ | ⟨kvs, hx, e'⟩
    · subst e'
      obtain ⟨its, r, pl, hz⟩ := I.list hx
      have hlen := r.length
      exact wpAny_truthy_list pl.isList (by simp only [List.size_toArray]; omega) ⟨H, I.tok _, by rw [isEmpty_of r]; exact q⟩
    · subst e'
      obtain ⟨its, r, pl, hz⟩ := I.tuple hx
      have hlen := r.length
      exact truthy_tuple pl (by simp only [List.size_toArray]; omega) ⟨H, I.tok _, by rw [isEmpty_of r]; exact q⟩
    · subst e'
      obtain ⟨hz, hS, vs, r, m⟩ := I.hok p _ hx
      have hlen : kvs.length = vs.length := Paired.length r
      exact wpAny_truthy_dict hS m (by omega) ⟨H, I.tok _, by rw [isEmpty_kv r]; exact q⟩
  | _ => exact (show False from e).elim
theorem pt_truth (ha : PE X a ta) (he : ∀ whole, isTrue a X.env whole = (do let v ← whole; standAt a.pos; holding [v] (truthy v))) :
    PT X a (fun σ H Q => ta σ H fun x H' => ∃ k, TruV X.K x H' k ∧ Q k H') := by
  intro pins s σ H Q I h
  exact isTrue_plain (thn (ha pins s σ H _ I h) fun v s1 ⟨x, H1, I1, r1, q1⟩ => tru_ok pins s1 σ H1 x v Q I1 r1 q1) (he _)
theorem vals1 {x : V} {us : List Value} (r : Vals [x] us) : ∃ u, us = [u] ∧ RelV x u := by
  cases r with
  | cons r1 r2 => cases r2; exact ⟨_, rfl, r1⟩
end
structure ObjM (h : Heap) (x dx C : Addr) (mA : Str → Option Value) : Prop where
  obj : h.get? x = some (PySem.W.instObj C dx)
  ns : h.Ns1 dx mA
  ne : dx ≠ x
set_option tactic.hygienic true in
theorem lookIn_ns {h : Heap} {dx : Addr} {mA : Str → Option Value} (n : h.Ns1 dx mA) : ∃ od, h.get? dx = some od ∧ ∀ name, PySem.W.lookIn name od = some (mA name) := by
  obtain ⟨o, es, ep, ho, hd, hk, _, hm⟩ := n
  refine ⟨o, ho, fun name => ?_⟩
  have e := hm name
  unfold nsFind findBy at e
  rw [← Array.find?_toList] at e
  unfold PySem.W.lookIn
  rw [hd]
  dsimp only
  split
  · rename_i y q
    rw [q] at e
    exact congrArg some e
  · rename_i q
    rw [q] at e
    have a : es.toList.any (·.refKey) = false := by
      rw [List.any_eq_false]
      intro y hy
      obtain ⟨z, t, hkey⟩ := hk y (Array.mem_toList_iff.mp hy)
      simp [DictEntry.refKey, hkey]
    have a' : ¬ es.toList.any (·.refKey) = true := by rw [a]; exact Bool.false_ne_true
    rw [if_neg a']
    exact congrArg some e
theorem ObjM.look {h : Heap} {x dx C : Addr} {mA : Str → Option Value} (I : ObjM h x dx C mA) : ∃ od, PySem.W.InstAt h x (PySem.W.instObj C dx) C (some od) ∧ ∀ name, PySem.W.lookIn name od = some (mA name) :=
  let ⟨od, ho, hl⟩ := lookIn_ns I.ns
  ⟨od, ⟨I.obj, rfl, rfl, ho⟩, hl⟩
section
variable {prog : Program} {w : World} {A : Around} {E : Value → Shared → Prop} {s : Shared} {K : PySem.W.Frag} {x dx C f : Addr} {mA : Str → Option Value} {name : Str} {v : Value}
end
def putF (f : Str) (v : V) : List (Str × V) → List (Str × V)
  | [] => [(f, v)]
  | (g, x) :: r => if g = f then (g, v) :: r else (g, x) :: putF f v r
theorem lookup_putF (f g : Str) (v : V) : ∀ fs : List (Str × V), (putF f v fs).lookup g = if g = f then some v else fs.lookup g := by
  intro x_0
  induction x_0 with
  | nil =>
    show List.lookup g [(f, v)] = _
    by_cases h : g = f
    · have hb : (g == f) = true := beq_iff_eq.mpr h
      simp only [List.lookup, hb, if_pos h]
    · have hb : (g == f) = false := beq_eq_false_iff_ne.mpr h
      simp only [List.lookup, hb, if_neg h]
  | cons p_0 r ih_ =>
    obtain ⟨k, x⟩ := p_0
    have ih := ih_
    rw [show putF f v ((k, x) :: r) = (if k = f then (k, v) :: r else (k, x) :: putF f v r) from rfl]
    by_cases hk : k = f
    · rw [if_pos hk]
      by_cases h : g = k
      · have hb : (g == k) = true := beq_iff_eq.mpr h
        simp only [List.lookup, hb, if_pos (h.trans hk)]
      · have hb : (g == k) = false := beq_eq_false_iff_ne.mpr h
        simp only [List.lookup, hb, if_neg (fun e : g = f => h (e.trans hk.symm))]
    · rw [if_neg hk]
      by_cases h : g = k
      · have hb : (g == k) = true := beq_iff_eq.mpr h
        simp only [List.lookup, hb, if_neg (fun e : g = f => hk (h.symm.trans e))]
      · have hb : (g == k) = false := beq_eq_false_iff_ne.mpr h
        simp only [List.lookup, hb]
        exact ih
theorem keys_putF (f : Str) (v : V) : ∀ fs : List (Str × V), f ∈ (putF f v fs).map (·.1) ∧ ∀ g, g ∈ fs.map (·.1) → g ∈ (putF f v fs).map (·.1) := by
  intro x_0
  induction x_0 with
  | nil =>
    exact ⟨by simp [putF], fun g h => by simp at h⟩
  | cons p_0 r ih_ =>
    obtain ⟨k, x⟩ := p_0
    obtain ⟨i1, i2⟩ := ih_
    rw [show putF f v ((k, x) :: r) = (if k = f then (k, v) :: r else (k, x) :: putF f v r) from rfl]
    by_cases hk : k = f
    · rw [if_pos hk]
      subst hk
      exact ⟨by simp, fun g h => by simpa using h⟩
    · rw [if_neg hk]
      refine ⟨?_, fun g h => ?_⟩
      · rw [List.map_cons]
        exact List.mem_cons_of_mem _ i1
      · rw [List.map_cons] at h ⊢
        rcases List.mem_cons.mp h with e | e
        · exact List.mem_cons.mpr (.inl e)
        · exact List.mem_cons_of_mem _ (i2 g e)
theorem RelO.some_of {v : V} {o : Option Value} (r : RelO (some v) o) : ∃ u, o = some u ∧ RelV v u := by
  cases o with
  | none => exact (show False from r).elim
  | some u => exact ⟨u, rfl, r⟩
theorem handed_of {v : V} {u : Value} (r : RelV v u) : PySem.W.handedIn u = true := by
  cases v with
  | non => cases (show u = Value.none from r); rfl
  | bl b => cases (show u = Value.bool b from r); rfl
  | int i => obtain ⟨t, e⟩ := (show ∃ t, u = Value.int i t from r); subst e; rfl
  | str x => obtain ⟨t, e⟩ := (show ∃ t, u = Value.str x t from r); subst e; rfl
  | byt b => obtain ⟨t, e⟩ := (show ∃ t, u = Value.bytes b t from r); subst e; rfl
  | flt b => obtain ⟨t, e⟩ := (show ∃ t, u = Value.float b t from r); subst e; rfl
  | ref a => cases (show u = Value.ref a from r); rfl
  | ty n => cases (show u = Value.type n from r); rfl
section
variable {P : Program} {w : World} {H H' : Hp} {h h' : Heap} {a C dx : Addr} {fs fs' : List (Str × V)}
theorem ins_get (hok : HOk P w H h) (e : H a = some (.ins C dx fs)) : ∃ mA, ObjM h a dx C mA ∧ (∀ f, RelO (fs.lookup f) (mA f)) ∧ PySem.Within mA (fs.map (·.1)) ∧ fs.length ≤ 1000 ∧ H dx = some (.own a) := by
  obtain ⟨d, z, ne, ob, mA, n, r, q⟩ := (show ObjOk P w H h a (.ins C dx fs) from hok a _ e)
  exact ⟨mA, ⟨ob, n, ne⟩, r, q, z, d⟩
end
structure Cls (K : PySem.W.Frag) (C : Addr) : Prop where
  pg : PySem.W.plainGet K C Str.empty = true
  hd : PySem.W.hasDictIn K C = true
  po : PySem.W.plainOver K C = true
  sa : PySem.W.findIn K (.ref C) "__setattr__" = some (some (.builtin "object.__setattr__"))
theorem Cls.get {K : PySem.W.Frag} {C : Addr} (c : Cls K C) (f : Str) : PySem.W.plainGet K C f = true := c.pg
section
variable {X : Cx} {pins : List (Addr × Obj)} {σ : St} {H : Hp} {s : Shared} {a C dx : Addr} {fs : List (Str × V)} {f : Str} {v : V} {A : Around} {E : Value → Shared → Prop}
theorem attr_of {prog : Program} {w : World} {env : Env} {e : Expr} {f : Str} {pos : Pos} {s : Shared} {Q : Value → Shared → Prop} (hb : attributeBase e f env (eval e env) = eval e env)
    (h : wpAny (model prog w) A (eval e env) (fun o s₁ => wpAny (model prog w) A (getAttr o f true) Q E s₁) E s) : wpAny (model prog w) A (eval (.Attribute e f pos) env) Q E s :=
  Attribute_any_ h (by rw [arm_eval_Attribute, hb])
end
section
variable {X : Cx} {o e value : Expr} {f : Str} {pos pos' tpos : Pos} {ta tv : TE}
end
section
variable {X : Cx} {pins : List (Addr × Obj)} {σ : St} {H : Hp} {s : Shared} {A : Around} {E : Value → Shared → Prop} {Q : Value → Shared → Prop} {c : Value} {b : Bool}
inductive TyOf (K : PySem.W.Frag) (H : Hp) : V → Value → Prop where
  | non : TyOf K H .non (.type "NoneType")
  | bl (x : Bool) : TyOf K H (.bl x) (.type "bool")
  | int (i : Int) : TyOf K H (.int i) (.type "int")
  | str (x : Str) : TyOf K H (.str x) (.type "str")
  | flt (x : UInt64) : TyOf K H (.flt x) (.type "float")
  | lst {a : Addr} {xs : List V} (e : H a = some (.lst xs)) : TyOf K H (.ref a) (.type "list")
  | frz {a : Addr} {o : Obj} {xs : List V} (e : H a = some (.frz o (.lst xs))) : TyOf K H (.ref a) (.type "list")
  | tup {a : Addr} {xs : List V} (e : H a = some (.tup xs)) : TyOf K H (.ref a) (.type "tuple")
  | dK {a : Addr} {kvs : List (Key × V)} (e : H a = some (.dK kvs)) : TyOf K H (.ref a) (.type "dict")
  | dT {a : Addr} {kvs : List (List Key × V)} (e : H a = some (.dT kvs)) : TyOf K H (.ref a) (.type "dict")
  | ins {a C dx : Addr} {fs : List (Str × V)} (e : H a = some (.ins C dx fs)) (cl : Cls K C) (ha : PySem.W.findIn K (.ref C) "__class__" = some (some (.builtin "object.__class__")))
      (hn : PySem.W.specialIn K (.builtin "object.__class__") "__get__" = some (some (.builtin "getset_descriptor.__get__"))) (htk : PySem.W.takesIn K (.builtin "object.__class__") = some true)
      (hm : PySem.W.mroIn K C (.type "object") = some true) : TyOf K H (.ref a) (.ref C)
theorem isinst_ok {x : V} {u t : Value} (I : Inv X pins σ H s) (rx : RelV x u) (ty : TyOf X.K H x t) (e : PySem.W.kitOne X.K t c = some b) (h : ∀ tk, Q (.bool b) { s with toks := tk }) :
    wpAny (model X.prog X.w) A (call (.builtin "isinstance") [u, c]) Q E s := by
  cases ty with
  | non => cases (show u = Value.none from rx); exact PySem.W.kia_one PySem.W.kitx_none I.kIn True.intro e (fun z => nomatch z) h
  | bl y => cases (show u = Value.bool y from rx); exact PySem.W.kia_one PySem.W.kitx_bool I.kIn True.intro e (fun z => nomatch z) h
  | int i => obtain ⟨t, q⟩ := (show ∃ t, u = Value.int i t from rx); subst q; exact PySem.W.kia_one PySem.W.kitx_int I.kIn True.intro e (fun z => nomatch z) h
  | str y => obtain ⟨t, q⟩ := (show ∃ t, u = Value.str y t from rx); subst q; exact PySem.W.kia_one PySem.W.kitx_str I.kIn True.intro e (fun z => nomatch z) h
  | flt y => obtain ⟨t, q⟩ := (show ∃ t, u = Value.float y t from rx); subst q; exact PySem.W.kia_one PySem.W.kitx_float I.kIn True.intro e (fun z => nomatch z) h
  | @lst a xs ea =>
    cases (show u = Value.ref a from rx)
    obtain ⟨_, _, n, _, h1⟩ := (show ObjOk X.prog X.w H s.heap a (.lst xs) from I.hok a _ ea)
    exact PySem.W.kia_one PySem.W.kitx_list I.kIn ⟨_, h1, rfl⟩ e (fun z => nomatch z) h
  | @frz a ob xs ea =>
    cases (show u = Value.ref a from rx)
    obtain ⟨_, _, _, n, _, h1⟩ := (show ObjOk X.prog X.w H s.heap a (.frz ob (.lst xs)) from I.hok a _ ea)
    exact PySem.W.kia_one PySem.W.kitx_list I.kIn ⟨_, h1, rfl⟩ e (fun z => nomatch z) h
  | @tup a xs ea =>
    cases (show u = Value.ref a from rx)
    obtain ⟨_, _, _, p⟩ := (show ObjOk X.prog X.w H s.heap a (.tup xs) from I.hok a _ ea)
    obtain ⟨o, h1, h2, _⟩ := p
    exact PySem.W.kia_one PySem.W.kitx_tuple I.kIn ⟨o, h1, h2⟩ e (fun z => nomatch z) h
  | @dK a kvs ea =>
    cases (show u = Value.ref a from rx)
    obtain ⟨_, _, vs, _, p⟩ := (show ObjOk X.prog X.w H s.heap a (.dK kvs) from I.hok a _ ea)
    obtain ⟨o, es, ep, h1, h2, _⟩ := p
    exact PySem.W.kia_one PySem.W.kitx_dict I.kIn ⟨o, h1, h2.1⟩ e (fun z => nomatch z) h
  | @dT a kvs ea =>
    cases (show u = Value.ref a from rx)
    obtain ⟨_, _, xs, _, o, es, ep, h1, h2, _⟩ := (show ObjOk X.prog X.w H s.heap a (.dT kvs) from I.hok a _ ea)
    exact PySem.W.kia_one PySem.W.kitx_dict I.kIn ⟨o, h1, h2.1⟩ e (fun z => nomatch z) h
  | @ins a C dx fs ea cl ha hn htk hm =>
    cases (show u = Value.ref a from rx)
    obtain ⟨mA, O, _⟩ := ins_get I.hok ea
    obtain ⟨od, J, _⟩ := O.look
    exact PySem.W.kia_one (PySem.W.kitx_own (cl.get _) cl.hd ha hn htk hm) I.kIn J e (fun z => nomatch z) h
end
structure Room (k : Nat) (A : Around) : Prop where
  hd : A.handled = none
  dp : A.depth + 3 * k + 5 < recursionLimit
  un : A.units + 16 * k + 200 < cLine
theorem room_le {u a b k m n : Nat} (h : a ≤ b) (q : u + b * (k + 1) + m < n) : u + a + b * k + m < n := by
  have e : u + a + b * k ≤ u + (b * k + b) := Nat.le_trans (Nat.le_of_eq (Nat.add_right_comm u a (b * k))) (Nat.le_trans (Nat.add_le_add_left h (u + b * k)) (Nat.le_of_eq (Nat.add_assoc u (b * k) b)))
  exact Nat.lt_of_le_of_lt (Nat.add_le_add_right e m) q
theorem Room.mono {j k : Nat} {A : Around} (r : Room k A) (h : j ≤ k) : Room j A := ⟨r.hd, Nat.lt_of_le_of_lt (Nat.add_le_add_right (Nat.add_le_add_left (Nat.mul_le_mul_left 3 h) _) 5) r.dp, Nat.lt_of_le_of_lt (Nat.add_le_add_right (Nat.add_le_add_left (Nat.mul_le_mul_left 16 h) _) 200) r.un⟩
theorem Room.deeper {k : Nat} {A : Around} (r : Room (k + 1) A) (env : Env) : Room k (A.deeper env) :=
  ⟨r.hd, room_le (by decide) r.dp, room_le (by decide) r.un⟩
theorem make_depth {A : Around} {C : Addr} {us : List Value} {kw : List (Str × Value)} : (A.under (.builtin "type.__call__" ⟨.ref C :: us, kw⟩)).depth = A.depth + 1 := by
  first | rfl | simp [Around.under, Code.weight, Code.isCreation, Code.isGuard, Code.isCaller, Code.frames, Code.isFrame, guardIds]
theorem make_units {A : Around} {C : Addr} {us : List Value} {kw : List (Str × Value)} : (A.under (.builtin "type.__call__" ⟨.ref C :: us, kw⟩)).units = A.units + 1 := by
  first | rfl | simp [Around.under, Code.cUnits, Code.frames, Code.isFrame]
theorem Room.make {k : Nat} {A : Around} (r : Room (k + 1) A) (C : Addr) (us : List Value) (kw : List (Str × Value)) : Room k (A.under (.builtin "type.__call__" ⟨.ref C :: us, kw⟩)) :=
  ⟨r.hd, by rw [make_depth]; exact room_le (by decide) r.dp, by rw [make_units]; exact room_le (by decide) r.un⟩
theorem Room.depth {k : Nat} {A : Around} (r : Room k A) : A.depth < recursionLimit := Nat.lt_of_le_of_lt (Nat.le_trans (Nat.le_add_right _ (3 * k)) (Nat.le_add_right _ 5)) r.dp
theorem Room.units {k : Nat} {A : Around} (r : Room k A) : A.units + 64 < cLine := Nat.lt_of_le_of_lt (Nat.add_le_add (Nat.le_add_right _ (16 * k)) (by decide)) r.un
def tNil : TA := fun _ H Q => Q [] H
def tCons (ta : TE) (tr : TA) : TA := fun σ H Q => ta σ H fun x H1 => tr σ H1 fun xs H2 => Q (x :: xs) H2
section
variable {X : Cx} {e : Expr} {es : List Expr} {te : TE} {t : TA} {pos : Pos}
theorem pa_nil : PA X [] tNil := fun _ _ _ _ H Q I h => Calls.spliced_nil ⟨[], H, I, .nil, h⟩
theorem pa_cons (ha : PE X e te) (hr : PA X es t) (hs : starEach (e :: es) X.env = (false, eval e X.env) :: starEach es X.env := by rfl) : PA X (e :: es) (tCons te t) := by
  intro pos pins s σ H Q I h
  rw [hs]
  show wpAny _ _ (spliced ((false, eval e X.env) :: backTo pos (starEach es X.env))) _ _ s
  refine Calls.spliced_cons (thn (ha pins s σ H _ I h) fun u s1 ⟨x, H1, I1, r1, q1⟩ => ?_)
  exact thn (hr pos pins s1 σ H1 _ I1 q1) fun us s2 ⟨xs, H2, I2, r2, q2⟩ => ⟨x :: xs, H2, I2, .cons r1 r2, q2⟩
def tLst (t : TA) : TE := fun σ H Q => t σ H fun xs H1 => xs.length ≤ sizeLine ∧ ∀ p, H1 p = none → Q (.ref p) (upd H1 p (.lst xs))
theorem pe_lst (h : PA X es t) : PE X (.List es pos) (tLst t) := by
  intro pins s σ H Q I hq
  refine wpAny_List_spliced (thn (h pos pins s σ H _ I hq) fun us s1 ⟨xs, H1, I1, r, z, q⟩ => ⟨by rw [← r.length]; exact z, ?_⟩)
  have hf : H1 s1.heap.objs.size = none := I1.hok.fresh (Nat.le_refl _)
  refine ⟨.ref s1.heap.objs.size, upd H1 s1.heap.objs.size (.lst xs), I1.laid (t' := s1.toks) (fun b u e => Heap.get?_push_of_some _ e) (Nat.le_refl _) ?_, rfl, q _ hf⟩
  exact ⟨z, us, 0, r, Heap.get?_push_size _ rfl⟩
end
abbrev Sp := List V → Hp → VK → XK → Prop
abbrev CXT := List Env → Hp → Shared → XK → Value → Shared → Prop
structure Env0 (P : Program) (w : World) (K : PySem.W.Frag) (mg : Str → Option Value) (base : Heap) (A : Around) (outer : List Env) (s : Shared) (H : Hp) : Prop where
  frames : A.frames = some outer
  mod : Mod K mg base
  bs : ∀ b o, base.get? b = some o → s.heap.get? b = some o ∧ H b = none
  bsz : base.objs.size ≤ s.heap.objs.size
  funs : s.heap.FunFrames base outer
  frf : ∀ b ∈ frs outer, H b = none
  hok : HOk P w H s.heap
  bare : AllBare s.gens
def CE (outer : List Env) (P : Program) (w : World) (H : Hp) (s : Shared) (Q : VK) (u : Value) (s' : Shared) : Prop :=
  ∃ v H', s'.os = s.os ∧ AllBare s'.gens ∧ Un (frs outer) [] H H' s.heap s'.heap ∧ HOk P w H' s'.heap ∧ RelV v u ∧ Q v H'
def CR (CX : CXT) (outer : List Env) (P : Program) (w : World) (H : Hp) (s : Shared) (Q : VK) (E : XK) (r : Result) (s' : Shared) : Prop :=
  match r with
  | .ok (.ret u) => CE outer P w H s Q u s'
  | .ok _ => False
  | .error e => CX outer H s E e s'
structure FnOk (P : Program) (w : World) (K : PySem.W.Frag) (mg : Str → Option Value) (base : Heap) (CX : CXT) (k : Nat) (f : Addr) (fd : FuncData) (ps : List Str) (sp : Sp) : Prop where
  len : ∀ vs H Q E, sp vs H Q E → vs.length = ps.length
  run : ∀ (A : Around) (outer : List Env) (s : Shared) (H : Hp) (args : Args) (us : List Value) (vs : List V) (Q : VK) (E : XK), Room k A → Env0 P w K mg base A outer s H → BindsTo s fd args (ps.zip us) → Vals vs us → sp vs H Q E →
    codeAny (model P w) A (.call (.ref f) args) (CR CX outer P w H s Q E) s
theorem FnOk.imp {P : Program} {w : World} {K : PySem.W.Frag} {mg : Str → Option Value} {base : Heap} {CX : CXT} {k : Nat} {f : Addr} {fd : FuncData} {ps : List Str} {sp sp' : Sp} (F : FnOk P w K mg base CX k f fd ps sp)
    (h : ∀ vs H Q E, sp' vs H Q E → sp vs H Q E) : FnOk P w K mg base CX k f fd ps sp' :=
  ⟨fun vs H Q E q => F.len vs H Q E (h _ _ _ _ q), fun A outer s H args us vs Q E hr he hb hv hs => F.run A outer s H args us vs Q E hr he hb hv (h _ _ _ _ hs)⟩
theorem Env0.make {P : Program} {w : World} {K : PySem.W.Frag} {mg : Str → Option Value} {base : Heap} {A : Around} {outer : List Env} {s : Shared} {H : Hp} (e : Env0 P w K mg base A outer s H) (C : Addr) (us : List Value) (kw : List (Str × Value)) :
    Env0 P w K mg base (A.under (.builtin "type.__call__" ⟨.ref C :: us, kw⟩)) outer s H := ⟨by first | exact e.frames | (simpa [Around.under, Code.envs, Code.isFrame, pushEnvs] using e.frames), e.mod, e.bs, e.bsz, e.funs, e.frf, e.hok, e.bare⟩
section
variable {X : Cx} {pins : List (Addr × Obj)} {σ : St} {H : Hp} {s s' : Shared}
theorem Inv.env0 (I : Inv X pins σ H s) : Env0 X.prog X.w X.K X.mg X.base X.A X.stack s H :=
  ⟨I.ok.frames, I.ok.mod, I.bs, Nat.le_trans I.ok.bsz I.sz, I.stack, I.stkFree, I.hok, I.bare⟩
theorem Inv.after {Q : VK} {u : Value} (I : Inv X pins σ H s) (h : CE X.stack X.prog X.w H s Q u s') : EP X pins σ Q u s' := by
  obtain ⟨v, H', os, bare, un, hok, r, q⟩ := h
  obtain ⟨hh, g, d, t, os'⟩ := s'
  obtain rfl : os' = s.os := os
  exact ⟨v, H', I.call (h' := hh) (g' := g) (d' := d) (t' := t) (ch := []) un hok bare (fun b z => absurd z (by simp)), r, q⟩
end
def tCall (sp : Sp) (dvs : List V) (E : XK) (t : TA) : TE := fun σ H Q => t σ H fun vs H1 => sp (vs ++ dvs) H1 Q E
def Binds (K : PySem.W.Frag) (fd : FuncData) (ps : List Str) (ds : List Value) : Prop :=
  ∀ (s : Shared) (us : List Value), K.In s.heap → (us ++ ds).length = ps.length → BindsTo s fd ⟨us, []⟩ (ps.zip (us ++ ds))
theorem Binds.all {K : PySem.W.Frag} {fd : FuncData} {ps : List Str} (h : ∀ us : List Value, us.length = ps.length → bindArgs fd ⟨us, []⟩ = pure (ps.zip us)) : Binds K fd ps [] := fun s us _ hl => by
  rw [List.append_nil] at hl ⊢
  exact .of_eq (h us hl)
def Passes (CX : CXT) (X : Cx) (E : XK) : Prop := ∀ (pins : List (Addr × Obj)) (σ : St) (H : Hp) (s : Shared) (e : Value) (s' : Shared), Inv X pins σ H s → CX X.stack H s E e s' → X.xe e s'
section
variable {X : Cx} {CX : CXT} {k : Nat} {f C : Addr} {fd : FuncData} {ps : List Str} {sp : Sp} {dvs : List V} {ds : List Value} {E : XK} {x m : Str} {p pos apos : Pos} {e o : Expr} {es : List Expr} {ta : TE} {t : TA}
theorem run_fn {pins : List (Addr × Obj)} {σ : St} {H : Hp} {s : Shared} {Q : VK} {us : List Value} {vs : List V} (F : FnOk X.prog X.w X.K X.mg X.base CX k f fd ps sp) (hr : Room k X.A) (hb : Binds X.K fd ps ds) (hd : Vals dvs ds) (hx : Passes CX X E)
    (I : Inv X pins σ H s) (r : Vals vs us) (h : sp (vs ++ dvs) H Q E) : wpAny (model X.prog X.w) X.A (call (.ref f) us) (EP X pins σ Q) X.xe s := by
  have r2 : Vals (vs ++ dvs) (us ++ ds) := r.append hd
  have hl : (us ++ ds).length = ps.length := by rw [← r2.length]; exact F.len _ _ _ _ h
  refine wpAny_call (codeAny_mono (F.run X.A X.stack s H ⟨us, []⟩ (us ++ ds) (vs ++ dvs) Q E hr I.env0 (hb s us I.kIn hl) r2 h) fun r s' hq => ?_)
  cases r with
  | error e => exact hx pins σ H s e s' I hq
  | ok fl =>
    cases fl with
    | ret u => exact I.after hq
    | next => exact False.elim hq
    | brk => exact False.elim hq
    | cont => exact False.elim hq
theorem pe_call (F : FnOk X.prog X.w X.K X.mg X.base CX k f fd ps sp) (hr : Room k X.A) (hg : Gl X x) (hm : X.mg x = some (.ref f)) (hk : PySem.W.keepIn X.K (.ref f) = true) (hb : Binds X.K fd ps ds) (hd : Vals dvs ds) (hx : Passes CX X E)
    (ha : PA X (e :: es) t) (hdb : (x == ("__debug__" : Str)) = false := by decide) (he : starEach (e :: es) X.env = (false, eval e X.env) :: starEach es X.env := by rfl) (hpl : (backTo pos (starEach es X.env)).any (·.1) = false := by rfl) :
    PE X (.Call (.Name x p) (e :: es) [] pos) (tCall sp dvs E t) := by
  intro pins s σ H Q I h
  refine wpAny_Call_Name_kw (ld_glob I hg hm ?_ hdb)
  refine PySem.W.callWith_K (h₀ := X.base) I.ok.mod.kin hk (thn (ha pos pins s σ H _ I h) fun us s1 ⟨vs, H1, I1, r, q⟩ => ⟨I1.kIn, ?_⟩) he hpl
  exact run_fn F hr hb hd hx I1 r q
end
section
variable {X : Cx} {CX : CXT} {k : Nat} {f C : Addr} {fd : FuncData} {ps ks : List Str} {sp : Sp} {E : XK} {x m : Str} {p pos apos kpos : Pos} {e o : Expr} {es : List Expr} {kws : List Keyword} {te ta : TE} {t tk : TA} {nm : Option Str}
variable {g : List Value → List Value → List Value} {gV : List V → List V → List V}
end
structure FnScope (N P : List Str) (sc : Scope) : Prop where
  kind : sc.kind = .function
  co : sc.isCoroutine = false
  gen : sc.isGenerator = false
  nd : N.Nodup
  pre : N.take P.length = P
  par : ∀ x ∈ P, sc.names.lookup x = some .local ∨ sc.names.lookup x = some .cell
  nofree : ∀ y ∈ sc.names, y.2 ≠ .free
theorem bindL_out {kindOf : Str → Option NameKind} {x : Str} : ∀ {binds : List (Str × Value)} {m : Str → Option Value}, (∀ v, (x, v) ∉ binds) → bindL kindOf binds m x = m x := by
  intro x_0
  induction x_0 with
  | nil =>
    intro _ _
    exact rfl
  | cons p_0 r ih_ =>
    obtain ⟨n, v⟩ := p_0
    intro m h
    unfold bindL
    rw [ih_ fun w hw => h w (List.mem_cons_of_mem _ hw)]
    split
    · have : x ≠ n := by rintro rfl; exact h v List.mem_cons_self
      simp [this]
    · rfl
theorem bindC_out {kindOf : Str → Option NameKind} {x : Str} : ∀ {binds : List (Str × Value)} {m : Str → Option Value}, (∀ v, (x, v) ∉ binds) → bindC kindOf binds m x = m x := by
  intro x_0
  induction x_0 with
  | nil =>
    intro _ _
    exact rfl
  | cons p_0 r ih_ =>
    obtain ⟨n, v⟩ := p_0
    intro m h
    unfold bindC
    rw [ih_ fun w hw => h w (List.mem_cons_of_mem _ hw)]
    split
    · rfl
    · have : x ≠ n := by rintro rfl; exact h v List.mem_cons_self
      simp [this]
theorem bindL_get {kindOf : Str → Option NameKind} {x : Str} {v : Value} : ∀ {P : List Str} {vs : List Value} {i : Nat} {m : Str → Option Value}, P.Nodup → P[i]? = some x → vs[i]? = some v → kindOf x = some .local →
    bindL kindOf (P.zip vs) m x = some v := by
  intro x_0
  induction x_0 with
  | nil =>
    intro _ _ _ _ h _ _
    simp at h
  | cons p P ih_ =>
    intro x_1
    cases x_1 with
    | nil =>
      intro _ _ _ _ h _
      simp at h
    | cons w vs =>
      intro x_2
      cases x_2 with
      | zero =>
        intro m nd h1 h2 hk
        simp at h1 h2; subst h1; subst h2
        show bindL kindOf ((p, w) :: P.zip vs) m p = _
        unfold bindL
        rw [bindL_out fun v hv => (List.nodup_cons.mp nd).1 (List.of_mem_zip hv).1, if_pos hk]
        simp
      | succ i =>
        intro m nd h1 h2 hk
        show bindL kindOf ((p, w) :: P.zip vs) m x = _
        unfold bindL
        exact ih_ (List.nodup_cons.mp nd).2 (by simpa using h1) (by simpa using h2) hk
theorem bindC_get {kindOf : Str → Option NameKind} {x : Str} {v : Value} : ∀ {P : List Str} {vs : List Value} {i : Nat} {m : Str → Option Value}, P.Nodup → P[i]? = some x → vs[i]? = some v → kindOf x ≠ some .local →
    bindC kindOf (P.zip vs) m x = some v := by
  intro x_0
  induction x_0 with
  | nil =>
    intro _ _ _ _ h _ _
    simp at h
  | cons p P ih_ =>
    intro x_1
    cases x_1 with
    | nil =>
      intro _ _ _ _ h _
      simp at h
    | cons w vs =>
      intro x_2
      cases x_2 with
      | zero =>
        intro m nd h1 h2 hk
        simp at h1 h2; subst h1; subst h2
        show bindC kindOf ((p, w) :: P.zip vs) m p = _
        unfold bindC
        rw [bindC_out fun v hv => (List.nodup_cons.mp nd).1 (List.of_mem_zip hv).1, if_neg hk]
        simp
      | succ i =>
        intro m nd h1 h2 hk
        show bindC kindOf ((p, w) :: P.zip vs) m x = _
        unfold bindC
        exact ih_ (List.nodup_cons.mp nd).2 (by simpa using h1) (by simpa using h2) hk
def start (N : List Str) (vs : List V) : St := vs.map some ++ List.replicate (N.length - vs.length) none
def cxOf (CX : CXT) (P : Program) (w : World) (K : PySem.W.Frag) (mg : Str → Option Value) (base : Heap) (N : List Str) (qual : Str) (scope : Scope) (f : Addr) (cd : Value) (A : Around) (outer : List Env) (s : Shared) (H : Hp) (E : XK) : Cx where
  prog := P
  w := w
  K := K
  mg := mg
  base := base
  A := A.deeper (envOfC qual scope s.heap.objs.size f cd)
  N := N
  s₀ := s
  H₀ := H
  env := envOfC qual scope s.heap.objs.size f cd
  outer := outer
  stack := envOfC qual scope s.heap.objs.size f cd :: outer
  ex := []
  calm := true
  fn := fun _ => true
  pn := []
  xe := fun e s' => wpAny (model P w) (A.deeper (envOfC qual scope s.heap.objs.size f cd)) (leaving (envOfC qual scope s.heap.objs.size f cd) e) (fun _ s'' => CX outer H s E e s'') (fun e' s'' => CX outer H s E e' s'') s'
theorem cell_has {sc : Scope} {n : Nat} {x : Str} (h : sc.names.lookup x = some .cell) : ∃ c, (cellsFrom n sc.names []).lookup x = some c := by
  have q := PySem.W.cellsFrom_some sc.names n [] (.inl h)
  exact Option.isSome_iff_exists.mp q
theorem inv_start {CX : CXT} {P : Program} {w : World} {K : PySem.W.Frag} {mg : Str → Option Value} {base : Heap} {N ps : List Str} {qual : Str} {scope : Scope} {f : Addr} {cd : Value} {A : Around} {outer : List Env} {s s1 : Shared} {H : Hp} {E : XK} {us : List Value} {vs : List V}
    (S : FnScope N ps scope) (hd : A.handled = none) (e0 : Env0 P w K mg base A outer s H) (hl : vs.length = ps.length) (r : Vals vs us)
    (x : InCallC s s.heap.objs.size (bindL (envOfC qual scope s.heap.objs.size f cd).kindOf (ps.zip us) fun _ => none) (cellsFrom (s.heap.objs.size + 1) scope.names []) (bindC (envOfC qual scope s.heap.objs.size f cd).kindOf (ps.zip us) fun _ => none) s1) :
    Inv (cxOf CX P w K mg base N qual scope f cd A outer s H E) [] (start N vs) H s1 := by
  have hpl : ps.length ≤ N.length := by have := congrArg List.length S.pre; rw [List.length_take] at this; omega
  obtain ⟨h1, tk, rfl, hk⟩ := x.done
  have noA : ∀ b : Addr, b ∉ (cxOf CX P w K mg base N qual scope f cd A outer s H E).ex := fun b z => absurd (show b ∈ ([] : List Addr) from z) (by simp)
  refine ⟨⟨e0.mod, S.kind, rfl, rfl, Nat.le_refl _, fun y z c h1 h2 => ?_, fun y hy => ?_, fun y c _ h => ?_, fun _ => hd, Around.frames_deeper e0.frames, .inr ⟨rfl, rfl⟩, fun b z => absurd z (noA b), e0.bs, e0.bsz, fun b _ _ => noA b, fun b z => absurd z (noA b), e0.funs, e0.frf⟩,
    rfl, e0.bare, Un.kept hk, ⟨_, x.toInCall.ns, fun i y v h1 h2 h3 => ?_⟩, fun y c h => ⟨_, x.cell y c h⟩, e0.hok.fresh (Nat.le_refl _), fun y c h => ?_, fun p hp => absurd (show p ∈ ([] : List (Addr × Obj)) from hp) (by simp), e0.hok.kept hk, ?_⟩
  · exact name_of_addr x.apart (PySem.mem_of_lookup h1) (PySem.mem_of_lookup h2)
  · have hy : scope.names.lookup y = some .cell ∨ scope.names.lookup y = some .free := hy
    rcases hy with hy | hy
    · exact cell_has hy
    · exact absurd rfl (S.nofree _ (PySem.mem_of_lookup hy))
  · exact Nat.le_of_lt (x.above y c (PySem.mem_of_lookup h))
  · have hi : i < vs.length := by
      unfold start at h2
      by_cases hi : i < vs.length
      · exact hi
      · rw [List.getElem?_append_right (by simpa using hi)] at h2
        rw [List.getElem?_replicate] at h2
        split at h2 <;> (first | injection h2; done | injection h2 with h2; injection h2; done)
    have ha : vs[i]? = some v := by
      unfold start at h2
      rw [List.getElem?_append_left (by simpa using hi), List.getElem?_map] at h2
      cases e : vs[i]? with
      | none => rw [e] at h2; injection h2
      | some a => rw [e] at h2; cases h2; rfl
    obtain ⟨u, hu, rv⟩ := r.get ha
    have hp : ps[i]? = some y := by
      rw [← S.pre, List.getElem?_take_of_lt (by omega)]; exact h1
    have ndP : ps.Nodup := by rw [← S.pre]; exact S.nd.sublist (List.take_sublist _ _)
    refine ⟨u, rv, ?_⟩
    rcases S.par y (List.mem_of_getElem? hp) with k | k
    · exact .inl ⟨k, bindL_get ndP hp hu k⟩
    · obtain ⟨c, e⟩ := cell_has (n := s.heap.objs.size + 1) k
      refine .inr ⟨.inl k, c, e, ?_⟩
      have q := x.cell y c e
      rw [bindC_get ndP hp hu (by show scope.names.lookup y ≠ _; rw [k]; decide)] at q
      exact q
  · exact e0.hok.fresh (Nat.le_of_lt (x.above y c (PySem.mem_of_lookup h)))
  · unfold start
    show _ = N.length
    rw [List.length_append, List.length_map, List.length_replicate]
    omega
theorem fn_of {CX : CXT} {P : Program} {w : World} {K : PySem.W.Frag} {mg : Str → Option Value} {base : Heap} {k : Nat} {f : Addr} {name qual : Str} {params : Arguments} {body : List Stmt} {scope : Scope} {dV kV doc pm cdv ct oc : Value} {an od : Option Addr}
    {osl : Array (Option Value)} {N ps : List Str} {sp : Sp} (lk : K.lookup f = some ⟨oc, od, .func (PySem.W.fnOf name qual params body scope dV kV doc pm an cdv ct), osl⟩) (hcd : PySem.W.codeIn K cdv qual = true) (S : FnScope N ps scope)
    (len : ∀ vs H Q E, sp vs H Q E → vs.length = ps.length)
    (hbody : ∀ (A : Around) (outer : List Env) (s : Shared) (H : Hp) (vs : List V) (Q : VK) (E : XK), Room k (A.deeper (envOfC qual scope s.heap.objs.size f cdv)) → sp vs H Q E →
      ∃ t, PSs (cxOf CX P w K mg base N qual scope f cdv A outer s H E) body t ∧ t { nx := fun _ H' => Q .non H', rt := Q } (start N vs) H) :
    FnOk P w K mg base CX (k + 1) f (PySem.W.fnOf name qual params body scope dV kV doc pm an cdv ct) ps sp := by
  refine ⟨len, fun A outer s H args us vs Q E hr e0 hb r hsp => ?_⟩
  have hl := len _ _ _ _ hsp
  have KX : K.In s.heap := e0.mod.kin.keeps fun b o e => (e0.bs b o e).1
  have lim : s.heap.NoLimit := e0.mod.nolimit.keeps fun b o e => (e0.bs b o e).1
  have hkind : ∀ y ∈ ps.zip us, scope.names.lookup y.1 = some .local ∨ (scope.names.lookup y.1 = some .cell ∧ ((cellsFrom (s.heap.objs.size + 1) scope.names []).lookup y.1).isSome = true) := fun ⟨n, v⟩ hy => by
    rcases S.par n (List.of_mem_zip hy).1 with q | q
    · exact .inl q
    · exact .inr ⟨q, PySem.W.cellsFrom_some _ _ _ (.inl q)⟩
  refine codeAny_call_function hr.depth (KX _ _ lk) rfl S.co S.gen rfl (PySem.W.codeRec_of KX hcd) (hb _ _ _ _ ?_)
  refine wpAny_newFunctionEnv_cells S.kind hkind fun env he s1 x => ?_
  subst he
  refine ⟨lim.keeps x.toInCall.keep, codeAny_func ?_⟩
  obtain ⟨t, ht, hq⟩ := hbody A outer s H vs Q E (hr.deeper _) hsp
  have I : Inv (cxOf CX P w K mg base N qual scope f cdv A outer s H E) [] (start N vs) H s1 := inv_start S hr.hd e0 hl r x
  refine wpAny_mono (ht [] s1 (start N vs) H _ I hq) (fun fl s' hs => ?_) fun e s' hs => hs
  have fin : ∀ {σ' : St} {H' : Hp} {v : V} {u : Value}, Inv (cxOf CX P w K mg base N qual scope f cdv A outer s H E) [] σ' H' s' → RelV v u → Q v H' → CE outer P w H s Q u s' :=
    fun {σ' H' v u} J rv q => ⟨v, H', J.os, J.bare, J.base, J.hok, rv, q⟩
  cases fl with
  | ret u =>
    obtain ⟨v, σ', H', J, rv, q⟩ := hs
    exact fin J rv q
  | next =>
    obtain ⟨σ', H', J, q⟩ := hs
    exact fin (v := V.non) (u := Value.none) J rfl q
  | brk =>
    obtain ⟨_, _, _, q⟩ := hs
    exact False.elim q
  | cont =>
    obtain ⟨_, _, _, q⟩ := hs
    exact False.elim q
section
variable {X : Cx} {x : Str} {p pos : Pos} {e : Expr} {es : List Expr} {t : TA} {id T : String} {r : List V → Hp → VK → Prop}
def tCB (r : List V → Hp → VK → Prop) (t : TA) : TE := fun σ H Q => t σ H fun vs H1 => r vs H1 Q
theorem pe_callB (hc : CallR X (.builtin id) r) (hg : Gl X x) (hm : X.mg x = none) (hv : bootBuiltins x = some (.builtin id)) (ha : PA X (e :: es) t) (hn : x ≠ "__name__" := by decide) (hdb : (x == ("__debug__" : Str)) = false := by decide)
    (he : starEach (e :: es) X.env = (false, eval e X.env) :: starEach es X.env := by rfl) (hpl : (backTo pos (starEach es X.env)).any (·.1) = false := by rfl) : PE X (.Call (.Name x p) (e :: es) [] pos) (tCB r t) := by
  intro pins s σ H Q I h
  refine wpAny_Call_Name_kw (ld_blt I hg hm hv ?_ hn hdb)
  exact PyProof.Rows.callWith_builtin1 (thn (ha pos pins s σ H _ I h) fun us s1 ⟨vs, H1, I1, r1, q1⟩ => hc pins s1 σ H1 vs us Q I1 r1 q1) he hpl
theorem pe_callTy (hc : CallR X (.type T) r) (hg : Gl X x) (hm : X.mg x = none) (hv : bootBuiltins x = some (.type T)) (ha : PA X (e :: es) t) (hn : x ≠ "__name__" := by decide) (hdb : (x == ("__debug__" : Str)) = false := by decide)
    (he : starEach (e :: es) X.env = (false, eval e X.env) :: starEach es X.env := by rfl) (hpl : (backTo pos (starEach es X.env)).any (·.1) = false := by rfl) : PE X (.Call (.Name x p) (e :: es) [] pos) (tCB r t) := by
  intro pins s σ H Q I h
  refine wpAny_Call_Name_kw (ld_blt I hg hm hv ?_ hn hdb)
  exact PyProof.Rows.callWith_type1 (thn (ha pos pins s σ H _ I h) fun us s1 ⟨vs, H1, I1, r1, q1⟩ => hc pins s1 σ H1 vs us Q I1 r1 q1) he hpl
end
end L2
namespace HT
open PySem PyProof.Rows
section
open PySem.SeqAt
open PySem.AutoSeq1 (wpAny_loadPart')
open PySem.MeetsSeq PySem.MeetsSeq2 PySem.MeetsSeq3
end
section
variable {prog : Program} {w : World} {A : Around} {E : Value → Shared → Prop} {s : Shared}
def sIx (n d : Nat) : Option Int → Nat
  | none => d
  | some v => if v < 0 then (v + (n : Int)).toNat else min v.toNat n
end
end HT
namespace L2
open PySem PySem.Spec PyProof.Rows
abbrev TO := St → Hp → (Option Int → Hp → Prop) → Prop
def PO (X : Cx) (e : Option Expr) (t : TO) : Prop :=
  ∀ (pins : List (Addr × Obj)) (s : Shared) (σ : St) (H : Hp) (Q : Option Int → Hp → Prop), Inv X pins σ H s → t σ H Q →
    wpAny (model X.prog X.w) X.A (evalPart e X.env) (fun u s' => ∃ o H', Inv X pins σ H' s' ∧ IsPart u o ∧ Q o H') X.xe s
def tPart (t : TE) : TO := fun σ H Q => t σ H fun x H1 => ∃ i, x = .int i ∧ Q (some i) H1
section
variable {X : Cx} {e : Expr} {te : TE} {lo hi : Option Expr} {tl th : TO} {pos p2 : Pos}
theorem po_some (h : PE X e te) : PO X (some e) (tPart te) := by
  intro pins s σ H Q I hw
  rw [evalPart_some]
  refine thn (h pins s σ H _ I hw) fun u s1 ⟨x, H1, I1, r1, q1⟩ => ?_
  obtain ⟨i, rfl, q⟩ := q1
  obtain ⟨t, rfl⟩ := r1
  exact ⟨some i, H1, I1, .int i t, q⟩
def SlR (X : Cx) (r : V → Option Int → Option Int → Hp → VK → Prop) : Prop :=
  ∀ (pins : List (Addr × Obj)) (s : Shared) (σ : St) (H : Hp) (x : V) (v vl vu : Value) (lo hi : Option Int) (sl : Addr) (Q : VK), Inv X pins σ H s → RelV x v → s.heap.IsSliceOf sl vl vu .none → IsPart vl lo → IsPart vu hi → r x lo hi H Q →
    ∃ T id, typeLookup (.type T) "__getitem__" = pure (some (.builtin id)) ∧ s.TypeIs v T ∧ wpAny (model X.prog X.w) X.A (getItem v (.ref sl)) (EP X pins σ Q) X.xe s
def tSl (r : V → Option Int → Option Int → Hp → VK → Prop) (te : TE) (tl th : TO) : TE := fun σ H Q => te σ H fun x H1 => tl σ H1 fun l H2 => th σ H2 fun u H3 => r x l u H3 Q
theorem pe_slice {r : V → Option Int → Option Int → Hp → VK → Prop} (hr : SlR X r) (he : PE X e te) (hl : PO X lo tl) (hu : PO X hi th) : PE X (.Subscript e (.Slice lo hi none p2) pos) (tSl r te tl th) := by
  intro pins s σ H Q I h
  refine Subscript_ (thn (he pins s σ H _ I h) fun v s1 ⟨x, H1, I1, r1, q1⟩ => ?_)
  refine wpAny_Slice (thn (hl pins s1 σ H1 _ I1 q1) fun vl s2 ⟨l, H2, I2, pl, q2⟩ => thn (hu pins s2 σ H2 _ I2 q2) fun vu s3 ⟨u, H3, I3, pu, q3⟩ => ?_)
  rw [evalPart_none]
  refine wpAny_pure ?_
  have I4 : Inv X pins σ H3 { s3 with heap := s3.heap.push { cls := .type "slice", data := .fields #[vl, vu, .none] } } := I3.kept (t' := s3.toks) fun b ob q => Heap.get?_push_of_some _ q
  obtain ⟨T, id, hT, ht, hg⟩ := hr pins { s3 with heap := s3.heap.push { cls := .type "slice", data := .fields #[vl, vu, .none] } } σ H3 x v vl vu l u s3.heap.objs.size Q I4 r1 (Heap.IsSliceOf.new ..) pl pu q3
  show wpAny (model X.prog X.w) X.A (subscriptTail e (.Slice lo hi none p2) v (.ref s3.heap.objs.size)) (EP X pins σ Q) X.xe { s3 with heap := s3.heap.push { cls := .type "slice", data := .fields #[vl, vu, .none] } }
  exact tail_any (ops := [.ref s3.heap.objs.size, v]) ht hT hg (by with_unfolding_all rfl)
def cutV (xs : List V) (lo hi : Option Int) : List V := (xs.drop (HT.sIx xs.length 0 lo)).take (HT.sIx xs.length xs.length hi - HT.sIx xs.length 0 lo)
theorem cutV_length (xs : List V) (lo hi : Option Int) : (cutV xs lo hi).length ≤ xs.length := by
  unfold cutV
  rw [List.length_take, List.length_drop]
  exact Nat.le_trans (Nat.min_le_right _ _) (Nat.sub_le _ _)
end
def ixN (n : Nat) (i : Int) : Option Nat := if 0 ≤ i then (if i < n then some i.toNat else none) else if -(n : Int) ≤ i then some (i + n).toNat else none
def atI {α : Type} (xs : List α) (i : Int) : Option α := (ixN xs.length i).bind fun j => xs[j]?
theorem ixN_seq {n : Nat} {i : Int} {j : Nat} (h : ixN n i = some j) : seqIndex? i n = some j ∧ j < n ∧ -(n : Int) ≤ i ∧ i < n := by
  unfold ixN at h
  by_cases h0 : 0 ≤ i
  · rw [if_pos h0] at h
    by_cases h1 : i < n
    · rw [if_pos h1] at h
      have e : i.toNat = j := Option.some.inj h
      exact ⟨by rw [seqIndex_of h0 h1, e], by rw [← e]; exact (Int.toNat_lt h0).mpr h1, Int.le_trans (Int.neg_nonpos_of_nonneg (Int.natCast_nonneg n)) h0, h1⟩
    · rw [if_neg h1] at h; injection h
  · rw [if_neg h0] at h
    by_cases h1 : -(n : Int) ≤ i
    · rw [if_pos h1] at h
      have e : (i + n).toNat = j := Option.some.inj h
      exact ⟨by rw [seqIndex_neg (by exact Int.not_le.mp ‹_›) h1, e], by omega, h1, Int.lt_of_lt_of_le (Int.not_le.mp h0) (Int.natCast_nonneg n)⟩
    · rw [if_neg h1] at h; injection h
theorem atI_get {α : Type} {xs : List α} {i : Int} {v : α} (h : atI xs i = some v) : ∃ j, seqIndex? i xs.length = some j ∧ xs[j]? = some v ∧ j < xs.length ∧ -(xs.length : Int) ≤ i ∧ i < xs.length := by
  unfold atI at h
  cases e : ixN xs.length i with
  | none => rw [e] at h; injection h
  | some j =>
    rw [e] at h
    obtain ⟨h1, h2, h3, h4⟩ := ixN_seq e
    exact ⟨j, h1, h, h2, h3, h4⟩
def PlainIx (b : Expr) : Prop := ∀ o i, subscripted b false o i = operate [o, i] (getItem o i)
def IxR (X : Cx) (r : R2) : Prop :=
  ∀ (value slice : Expr) (pins : List (Addr × Obj)) (s : Shared) (σ : St) (H : Hp) (x y : V) (v u : Value) (Q : VK), Inv X pins σ H s → RelV x v → RelV y u → r x y H Q →
    subscripted slice false v u = operate [v, u] (getItem v u) → wpAny (model X.prog X.w) X.A (subscriptTail value slice v u) (EP X pins σ Q) X.xe s
def MtR (X : Cx) (id : String) (r : V → List V → Hp → VK → Prop) : Prop :=
  ∀ (pins : List (Addr × Obj)) (s : Shared) (σ : St) (H : Hp) (x : V) (xs : List V) (v : Value) (us : List Value) (Q : VK), Inv X pins σ H s → RelV x v → Vals xs us → r x xs H Q →
    wpAny (model X.prog X.w) X.A (call (.builtin id) (v :: us)) (EP X pins σ Q) X.xe s
section
variable {X : Cx} {a b : Expr} {ta tb : TE} {pos : Pos}
theorem pe_ix {r : R2} (hr : IxR X r) (ha : PE X a ta) (hb : PE X b tb) (hs : PlainIx b) : PE X (.Subscript a b pos) (tOp r ta tb) := by
  intro pins s σ H Q I h
  exact Subscript_ (binT ha hb I h fun v u s2 x y H2 I2 rx ry q => hr a b pins s2 σ H2 x y v u Q I2 rx ry q (hs _ _))
def rIxL (K : PySem.W.Frag) : R2 := fun x y H Q => ∃ p xs i v, x = .ref p ∧ y = .int i ∧ SqL K H p xs ∧ atI xs i = some v ∧ Q v H
def rIxT (K : PySem.W.Frag) : R2 := fun x y H Q => ∃ p xs i v, x = .ref p ∧ y = .int i ∧ SqT K H p xs ∧ atI xs i = some v ∧ Q v H
theorem ix_list : IxR X (rIxL X.K) := by
  intro value slice pins s σ H x y v u Q I rx ry h hs
  obtain ⟨p, xs, i, z, rfl, rfl, hq, he, q⟩ := h
  subst rx
  obtain ⟨t, rfl⟩ := ry
  obtain ⟨its, r, pl, hz⟩ := I.list hq
  obtain ⟨j, h1, h2, h3, h4, h5⟩ := atI_get he
  obtain ⟨w, ew, rw'⟩ := r.get h2
  have hl := r.length
  have hn := line63
  have fin : EP X pins σ Q w s := ⟨z, H, I, rw', q⟩
  by_cases h0 : 0 ≤ i
  · have hj : i.toNat = j := by
      rw [seqIndex_of h0 h5] at h1
      exact Option.some.inj h1
    exact item_listR pl.isList h0 (by omega) (by rw [hj]; simpa using ew) fin hs
  · have hj : (i + (its.toArray.size : Int)).toNat = j := by
      rw [seqIndex_neg (by exact Int.not_le.mp ‹_›) h4] at h1
      rw [List.size_toArray, ← hl]
      exact Option.some.inj h1
    exact subscriptTail_builtinR (x := w) pl.isList.typeIs slot_list_getitem.lookup
      (wpAny_getItem_list_neg (Q := fun r s' => r = w ∧ EP X pins σ Q r s') pl.isList (by exact Int.not_le.mp ‹_›) (by rw [List.size_toArray] <;> omega) (by omega) (by rw [hj]; simpa using ew) ⟨rfl, fin⟩) hs
theorem ix_tup : IxR X (rIxT X.K) := by
  intro value slice pins s σ H x y v u Q I rx ry h hs
  obtain ⟨p, xs, i, z, rfl, rfl, hq, he, q⟩ := h
  subst rx
  obtain ⟨t, rfl⟩ := ry
  obtain ⟨its, r, pl, hz⟩ := I.tuple hq
  obtain ⟨j, h1, h2, h3, h4, h5⟩ := atI_get he
  obtain ⟨w, ew, rw'⟩ := r.get h2
  have hl := r.length
  have hn := line63
  have fin : EP X pins σ Q w s := ⟨z, H, I, rw', q⟩
  exact subscriptTail_builtinR (x := w) pl.typeIs slot_tuple_getitem.lookup
    (getItem_tuple (j := j) (Q := fun r s' => r = w ∧ EP X pins σ Q r s') pl (by omega) (by omega) (by rw [List.size_toArray, ← hl]; exact h1) (by simpa using ew) ⟨rfl, fin⟩) hs
theorem clip_neg (n : Nat) {i : Int} (h : i < 0) : max 0 (min (i + n) n) = (((i + n).toNat : Nat) : Int) := by
  have e := Int.add_le_add_right (Int.le_of_lt h) n
  rw [Int.zero_add] at e
  rw [Int.min_eq_left e, Int.ofNat_toNat, Int.max_comm]
theorem clip_pos (n : Nat) {i : Int} (h : ¬ i < 0) : max 0 (min i n) = ((min i.toNat n : Nat) : Int) := by
  obtain ⟨k, rfl⟩ := Int.eq_ofNat_of_zero_le (Int.not_lt.mp h)
  rw [Int.toNat_natCast]
  rcases Nat.le_total k n with e | e
  · rw [Nat.min_eq_left e, Int.min_eq_left (Int.ofNat_le.mpr e)]; exact Int.max_eq_right (Int.natCast_nonneg _)
  · rw [Nat.min_eq_right e, Int.min_eq_right (Int.ofNat_le.mpr e)]; exact Int.max_eq_right (Int.natCast_nonneg _)
theorem slice_bounds (lo hi : Option Int) (n : Nat) : (sliceBounds lo hi none n).1 = ((HT.sIx n 0 lo : Nat) : Int) ∧ (sliceBounds lo hi none n).2.1 = ((HT.sIx n n hi : Nat) : Int) ∧ (sliceBounds lo hi none n).2.2 = 1 := by
  refine ⟨?_, ?_, rfl⟩
  · cases lo with
    | none => rfl
    | some i =>
      by_cases h : i < 0
      · simp only [sliceBounds, HT.sIx, Option.getD_none, show (1 : Int) > 0 by decide, if_true, h]
        exact clip_neg n h
      · simp only [sliceBounds, HT.sIx, Option.getD_none, show (1 : Int) > 0 by decide, if_true, h, if_false]
        exact clip_pos n h
  · cases hi with
    | none => rfl
    | some i =>
      by_cases h : i < 0
      · simp only [sliceBounds, HT.sIx, Option.getD_none, show (1 : Int) > 0 by decide, if_true, h]
        exact clip_neg n h
      · simp only [sliceBounds, HT.sIx, Option.getD_none, show (1 : Int) > 0 by decide, if_true, h, if_false]
        exact clip_pos n h
theorem slicePick_cut (its : List Value) (lo hi : Option Int) : slicePick its.toArray lo hi none = ((its.drop (HT.sIx its.length 0 lo)).take (HT.sIx its.length its.length hi - HT.sIx its.length 0 lo)).toArray := by
  obtain ⟨h1, h2, h3⟩ := slice_bounds lo hi its.toArray.size
  unfold slicePick
  rw [h1, h2, h3]
  simp only [sliceRange_one, pick_run, List.size_toArray] <;> rfl
def rSlL (K : PySem.W.Frag) : V → Option Int → Option Int → Hp → VK → Prop := fun x lo hi H Q => ∃ a xs, x = .ref a ∧ SqL K H a xs ∧ ∀ p, H p = none → Q (.ref p) (upd H p (.lst (cutV xs lo hi)))
theorem sl_list : SlR X (rSlL X.K) := by
  intro pins s σ H x v vl vu lo hi sl Q I rx hs pl pu h
  obtain ⟨a, xs, rfl, hx, q⟩ := h
  subst rx
  obtain ⟨its, r, ht, hz⟩ := I.list hx
  have hlen := r.length
  refine ⟨"list", _, slot_list_getitem.lookup, ht.isList.typeIs, ?_⟩
  refine wpAny_getItem_list_slice ht.isList hs pl pu .none (by simp) ?_ (by rw [List.size_toArray] <;> omega)
  rw [slicePick_cut, ← hlen]
  refine ⟨.ref s.heap.objs.size, _, I.laid (t' := s.toks) (o := .lst (cutV xs lo hi)) (fun b ob q => Heap.get?_push_of_some _ q) (Nat.le_refl _) ?_, rfl, q _ (I.hok.fresh (Nat.le_refl _))⟩
  exact ⟨Nat.le_trans (cutV_length xs lo hi) hz, _, 0, (r.drop (HT.sIx xs.length 0 lo)).take (HT.sIx xs.length xs.length hi - HT.sIx xs.length 0 lo), Heap.get?_push_size _ rfl⟩
def flatV : V → Bool
  | .non => true
  | .bl _ => true
  | .int _ => true
  | .str _ => true
  | _ => false
def eqV : V → V → Bool
  | .non, .non => true
  | .bl a, .bl b => a == b
  | .bl a, .int b => (if a then 1 else 0) == b
  | .int a, .bl b => a == (if b then 1 else 0)
  | .int a, .int b => a == b
  | .str a, .str b => a == b
  | _, _ => false
theorem eqAt_V {A : Around} {s : Shared} {y x : V} {u v : Value} (ry : RelV y u) (rx : RelV x v) (fy : flatV y = true) (fx : flatV x = true) : SeqAt.EqAt A s u v (eqV y x) := by
  cases y with
  | non =>
    subst ry
    cases x with
    | non => subst rx; exact SeqAt.EqAt.same _
    | bl b => subst rx; exact SeqAt.EqAt.none_bool b
    | int b => obtain ⟨t, rfl⟩ := rx; exact SeqAt.EqAt.none_int b t
    | str b => obtain ⟨t, rfl⟩ := rx; exact SeqAt.EqAt.none_str b t
    | _ => exact absurd (show false = true from fx) Bool.false_ne_true
  | bl a =>
    subst ry
    cases x with
    | non => subst rx; exact SeqAt.EqAt.bool_none a
    | bl b => subst rx; exact SeqAt.EqAt.bool_bool a b
    | int b => obtain ⟨t, rfl⟩ := rx; exact SeqAt.EqAt.bool_int a b t
    | str b => obtain ⟨t, rfl⟩ := rx; exact SeqAt.EqAt.bool_str a b t
    | _ => exact absurd (show false = true from fx) Bool.false_ne_true
  | int a =>
    obtain ⟨t', rfl⟩ := ry
    cases x with
    | non => subst rx; exact SeqAt.EqAt.int_none a t'
    | bl b => subst rx; exact SeqAt.EqAt.int_bool a t' b
    | int b => obtain ⟨t, rfl⟩ := rx; exact SeqAt.EqAt.int_int a t' b t
    | str b => obtain ⟨t, rfl⟩ := rx; exact SeqAt.EqAt.int_str a t' b t
    | _ => exact absurd (show false = true from fx) Bool.false_ne_true
  | str a =>
    obtain ⟨t', rfl⟩ := ry
    cases x with
    | non => subst rx; exact SeqAt.EqAt.str_none a t'
    | bl b => subst rx; exact SeqAt.EqAt.str_bool a t' b
    | int b => obtain ⟨t, rfl⟩ := rx; exact SeqAt.EqAt.str_int a t' b t
    | str b => obtain ⟨t, rfl⟩ := rx; exact SeqAt.EqAt.str_str a t' b t
    | _ => exact absurd (show false = true from fx) Bool.false_ne_true
  | _ => exact absurd (show false = true from fy) Bool.false_ne_true
def eqU (x : V) (u : Value) : Bool := match u with
  | .none => eqV .non x
  | .bool b => eqV (.bl b) x
  | .int i _ => eqV (.int i) x
  | .str z _ => eqV (.str z) x
  | _ => false
theorem eqU_of {x y : V} {u : Value} (r : RelV y u) (f : flatV y = true) : eqU x u = eqV y x := by
  cases y with
  | non => subst r; rfl
  | bl b => subst r; rfl
  | int i => obtain ⟨t, rfl⟩ := r; rfl
  | str z => obtain ⟨t, rfl⟩ := r; rfl
  | _ => exact absurd (show false = true from f) Bool.false_ne_true
theorem any_eqU {x : V} : ∀ {xs : List V} {us : List Value}, Vals xs us → xs.all flatV = true → us.any (eqU x) = xs.any fun y => eqV y x := by
  intro xs us h
  induction h with
  | nil => exact fun _ => rfl
  | cons r t ih =>
    intro f
    rw [List.all_cons, Bool.and_eq_true] at f
    rw [List.any_cons, List.any_cons, eqU_of r f.1, ih f.2]
theorem mem_eqAt {A : Around} {s : Shared} {x : V} {v : Value} (rx : RelV x v) (fx : flatV x = true) : ∀ {xs : List V} {us : List Value}, Vals xs us → xs.all flatV = true → ∀ u ∈ us, SeqAt.EqAt A s u v (eqU x u) := by
  intro xs us h
  induction h with
  | nil => exact fun _ u hu => absurd hu List.not_mem_nil
  | cons r t ih =>
    intro f u' hu
    rw [List.all_cons, Bool.and_eq_true] at f
    rcases List.mem_cons.mp hu with rfl | hu
    · rw [eqU_of r f.1]; exact eqAt_V r rx f.1 fx
    · exact ih f.2 u' hu
def inV (x : V) (xs : List V) : Bool := xs.any fun y => eqV y x
def rIn (K : PySem.W.Frag) (neg : Bool) : R2 := fun x y H Q => ∃ p xs, y = .ref p ∧ (SqL K H p xs ∨ SqT K H p xs) ∧ flatV x = true ∧ xs.all flatV = true ∧ Q (.bl (if neg then !inV x xs else inV x xs)) H
theorem op_in_seq : OpR X (compareOp .In) (rIn X.K false) := by
  intro pins s σ H x y v u Q I rx ry h
  obtain ⟨p, xs, rfl, hq, fx, fs, q⟩ := h
  subst ry
  rcases hq with hq | hq
  · obtain ⟨its, r, pl, hz⟩ := I.list hq
    refine SeqAt.in_listAt (eqU x) pl.isList (fun w hw => mem_eqAt rx fx r fs w (by simpa using hw)) ⟨.bl _, H, I, rfl, ?_⟩
    rw [show its.toArray.any (eqU x) = its.any (eqU x) by simp, any_eqU r fs]
    exact q
  · obtain ⟨its, r, pl, hz⟩ := I.tuple hq
    refine SeqAt.in_tupleAt (eqU x) pl (fun w hw => mem_eqAt rx fx r fs w (by simpa using hw)) ⟨.bl _, H, I, rfl, ?_⟩
    rw [show its.toArray.any (eqU x) = its.any (eqU x) by simp, any_eqU r fs]
    exact q
theorem op_notIn_seq : OpR X (compareOp .NotIn) (rIn X.K true) := by
  intro pins s σ H x y v u Q I rx ry h
  obtain ⟨p, xs, rfl, hq, fx, fs, q⟩ := h
  subst ry
  rcases hq with hq | hq
  · obtain ⟨its, r, pl, hz⟩ := I.list hq
    refine SeqAt.notIn_listAt (eqU x) pl.isList (fun w hw => mem_eqAt rx fx r fs w (by simpa using hw)) ⟨.bl _, H, I, rfl, ?_⟩
    rw [show its.toArray.any (eqU x) = its.any (eqU x) by simp, any_eqU r fs]
    exact q
  · obtain ⟨its, r, pl, hz⟩ := I.tuple hq
    refine SeqAt.notIn_tupleAt (eqU x) pl (fun w hw => mem_eqAt rx fx r fs w (by simpa using hw)) ⟨.bl _, H, I, rfl, ?_⟩
    rw [show its.toArray.any (eqU x) = its.any (eqU x) by simp, any_eqU r fs]
    exact q
theorem call_len_seq : CallR X (.builtin "len") (fun xs H Q => ∃ p ys, xs = [.ref p] ∧ (SqL X.K H p ys ∨ SqT X.K H p ys) ∧ Q (.int ys.length) H) := by
  intro pins s σ H xs us Q I r h
  obtain ⟨p, ys, rfl, hq, q⟩ := h
  obtain ⟨u, rfl, rx⟩ := vals1 r
  subst rx
  have hn := line63
  rcases hq with hq | hq
  · obtain ⟨its, r', pl, hz⟩ := I.list hq
    have hlen := r'.length
    exact Calls.call_len_list pl.isList (by simp only [List.size_toArray] <;> omega) ⟨.int ys.length, H, I.tok _, ⟨s.toks + 1, by rw [List.size_toArray, hlen]⟩, q⟩
  · obtain ⟨its, r', pl, hz⟩ := I.tuple hq
    have hlen := r'.length
    exact len_tuple pl (by simp only [List.size_toArray] <;> omega) ⟨.int ys.length, H, I.tok _, ⟨s.toks + 1, by rw [List.size_toArray, hlen]⟩, q⟩
theorem call_list_of : CallR X (.type "list") (fun xs H Q => ∃ p ys, xs = [.ref p] ∧ (SqL X.K H p ys ∨ SqT X.K H p ys) ∧ ∀ l, H l = none → Q (.ref l) (upd H l (.lst ys))) := by
  intro pins s σ H xs us Q I r h
  obtain ⟨p, ys, rfl, hq, q⟩ := h
  obtain ⟨u, rfl, rx⟩ := vals1 r
  subst rx
  have fin : ∀ (its : List Value), Vals ys its → ys.length ≤ sizeLine → ∀ (h' : Heap) (c' : Nat), (∀ b o', s.heap.get? b = some o' → h'.get? b = some o') →
      h'.get? s.heap.objs.size = some { cls := .type "list", dict := none, data := .seq its.toArray c', slots := #[] } → EP X pins σ Q (.ref s.heap.objs.size) { s with heap := h' } := fun its r' hz h' c' kp e =>
    ⟨.ref s.heap.objs.size, _, I.laid (t' := s.toks) kp (Nat.le_refl _) (show ObjOk X.prog X.w _ h' _ (.lst ys) from ⟨hz, its, c', r', e⟩), rfl, q _ (I.hok.fresh (Nat.le_refl _))⟩
  rcases hq with hq | hq
  · obtain ⟨its, r', pl, hz⟩ := I.list hq
    have hlen := r'.length
    obtain ⟨o, ho, hc, n, hd⟩ := pl.isList
    exact call_list_seq p (.inl rfl) ho hc hd (fun h' c' kp e => fin its r' hz h' c' kp e) (by simp only [List.size_toArray] <;> omega)
  · obtain ⟨its, r', pl, hz⟩ := I.tuple hq
    have hlen := r'.length
    obtain ⟨o, ho, hc, n, hd⟩ := pl
    exact call_list_seq p (.inr rfl) ho hc hd (fun h' c' kp e => fin its r' hz h' c' kp e) (by simp only [List.size_toArray] <;> omega)
def tyV (K : PySem.W.Frag) (T : String) (x : V) (H : Hp) : Prop := match x with
  | .str _ => T = "str"
  | .int _ => T = "int"
  | .ref p => (T = "list" ∧ ∃ xs, SqL K H p xs) ∨ (T = "tuple" ∧ ∃ o, K.lookup p = some o ∧ o.cls = .type "tuple" ∧ o.dict = none) ∨
      (T = "dict" ∧ ((∃ kvs, H p = some (.dK kvs)) ∨ ∃ kvs, H p = some (.dT kvs))) ∨ (T = "set" ∧ ∃ S n, H p = some (.set S n))
  | _ => False
theorem tyV_is {pins : List (Addr × Obj)} {σ : St} {H : Hp} {s : Shared} {T : String} {x : V} {v : Value} (I : Inv X pins σ H s) (r : RelV x v) (ty : tyV X.K T x H) :
    s.TypeIs v T ∧ ∀ a, v = .ref a → ∃ ob, s.heap.get? a = some ob ∧ ob.dict = none := by
  cases x with
  | str z =>
    obtain ⟨t, rfl⟩ := r
    cases (show T = "str" from ty)
    exact ⟨typeIs_str s z t, fun _ e => nomatch e⟩
  | int i =>
    obtain ⟨t, rfl⟩ := r
    cases (show T = "int" from ty)
    exact ⟨typeIs_int s i t, fun _ e => nomatch e⟩
  | ref p =>
    subst r
    rcases ty with ⟨rfl, xs, hq⟩ | ⟨rfl, o, hk, hc, hd⟩ | ⟨rfl, hk⟩ | ⟨rfl, S, n, hk⟩
    · obtain ⟨its, _, pl, _⟩ := I.list hq
      refine ⟨pl.isList.typeIs, fun a e => ?_⟩
      (injection e with e; subst e)
      obtain ⟨o, n, e, c, hd, _⟩ := pl
      exact ⟨o, e, hd⟩
    · refine ⟨⟨o, I.kIn p o hk, hc⟩, fun a e => ?_⟩
      (injection e with e; subst e)
      exact ⟨o, I.kIn _ o hk, hd⟩
    · have z : ∃ o, s.heap.get? p = some o ∧ o.ExactDict := by
        rcases hk with ⟨kvs, hk⟩ | ⟨kvs, hk⟩
        · obtain ⟨_, _, _, _, o, _, _, e, ex, _⟩ := I.hok p _ hk
          exact ⟨o, e, ex⟩
        · obtain ⟨_, _, _, _, o, _, _, e, ex, _⟩ := I.hok p _ hk
          exact ⟨o, e, ex⟩
      obtain ⟨o, e, ex⟩ := z
      refine ⟨⟨o, e, ex.1⟩, fun a e2 => ?_⟩
      (injection e2 with e2; subst e2)
      exact ⟨o, e, ex.2.1⟩
    · obtain ⟨o, _, _, _, e, ex, _⟩ := I.hok p _ hk
      refine ⟨⟨o, e, ex.1⟩, fun a e2 => ?_⟩
      (injection e2 with e2; subst e2)
      exact ⟨o, e, ex.2.1⟩
  | _ => exact False.elim ty
def tBM0 (K : PySem.W.Frag) (T : String) (r : V → List V → Hp → VK → Prop) (to : TE) : TE := fun σ H Q => to σ H fun x H1 => tyV K T x H1 ∧ r x [] H1 Q
def tBM (K : PySem.W.Frag) (T : String) (r : V → List V → Hp → VK → Prop) (to : TE) (t : TA) : TE := fun σ H Q => to σ H fun x H1 => tyV K T x H1 ∧ t σ H1 fun xs H2 => r x xs H2 Q
variable {o e : Expr} {es : List Expr} {to : TE} {t : TA} {name : Str} {apos cpos : Pos} {T id : String} {r : V → List V → Hp → VK → Prop}
theorem pe_bm0 (pa : PlainAttrs T) (slot : Slot T name id) (hty : typeOf (.builtin id) = pure (.type "method_descriptor")) (hm : MtR X id r) (ho : PE X o to)
    (hbase : attributeBase o name X.env (eval o X.env) = eval o X.env := by rfl) (hline : (apos.endLine == cpos.line) = true := by rfl) : PE X (.Call (.Attribute o name apos) [] [] cpos) (tBM0 X.K T r to) := by
  intro pins s σ H Q I h
  refine wpAny_Call_method0_late hbase hline (thn (ho pins s σ H _ I h) fun v s1 ⟨x, H1, I1, r1, ty, q1⟩ => ?_)
  obtain ⟨h1, h2⟩ := tyV_is I1 r1 ty
  exact ⟨T, id, pa, slot, hty, h1, h2, Calls.callWith_builtin rfl (PySem.evalArgs_none (hm pins s1 σ H1 x [] v [] Q I1 r1 .nil q1))⟩
theorem pe_bm (pa : PlainAttrs T) (slot : Slot T name id) (hty : typeOf (.builtin id) = pure (.type "method_descriptor")) (hm : MtR X id r) (ho : PE X o to) (ha : PA X (e :: es) t)
    (hbase : attributeBase o name X.env (eval o X.env) = eval o X.env := by rfl)
    (hfew : ((backTo cpos (starEach (e :: es) X.env)).all (fun x => !x.1) && (backToKw cpos (keywordEach [] X.env)).all (fun x => x.1.isSome)
      && decide ((e :: es).length + ([] : List Keyword).length + (if ([] : List Keyword).isEmpty then 0 else 1) < 30)) = true := by rfl)
    (hline : (apos.endLine == cpos.line) = true := by rfl) (hs : starEach (e :: es) X.env = (false, eval e X.env) :: starEach es X.env := by rfl) (hplain : (backTo cpos (starEach es X.env)).any (·.1) = false := by rfl) :
    PE X (.Call (.Attribute o name apos) (e :: es) [] cpos) (tBM X.K T r to t) := by
  intro pins s σ H Q I h
  refine wpAny_Call_method_late hbase hfew hline rfl (thn (ho pins s σ H _ I h) fun v s1 ⟨x, H1, I1, r1, ty, q1⟩ => ?_)
  obtain ⟨h1, h2⟩ := tyV_is I1 r1 ty
  refine ⟨T, id, pa, slot, hty, h1, h2, ?_⟩
  have hA := ha cpos pins s1 σ H1 _ I1 q1
  rw [hs] at hA ⊢
  refine Calls.callWith_builtin (by show (false || (backTo cpos (starEach es X.env)).any (·.1)) = false; rw [hplain] <;> rfl) (Calls.evalArgs_plain ?_)
  exact thn hA fun us s2 ⟨vs, H2, I2, r2, q2⟩ => hm pins s2 σ H2 x vs v us Q I2 r1 r2 q2
end
def MtM (X : Cx) (id : String) (r : V → List V → Hp → VK → Prop) : Prop :=
  ∀ (pins : List (Addr × Obj)) (s : Shared) (σ : St) (H : Hp) (x : V) (xs : List V) (v : Value) (us : List Value) (Q : VK), Inv X pins σ H s → RelV x v → Vals xs us → r x xs H Q →
    wpAny (model X.prog X.w) X.A (call (.builtin id) (v :: us)) (EP X pins σ Q) X.xe s
theorem Vals.one : ∀ {x : V} {us : List Value}, Vals [x] us → ∃ u, us = [u] ∧ RelV x u := by
  intro x us h
  rcases h with _ | ⟨r, h⟩
  cases h
  exact ⟨_, rfl, r⟩
theorem Vals.two : ∀ {x y : V} {us : List Value}, Vals [x, y] us → ∃ u v, us = [u, v] ∧ RelV x u ∧ RelV y v := by
  intro x y us h
  rcases h with _ | ⟨r, h⟩
  rcases h with _ | ⟨q, h⟩
  cases h
  exact ⟨_, _, rfl, r, q⟩
theorem Vals.zero : ∀ {us : List Value}, Vals [] us → us = [] := by
  intro us h
  cases h
  rfl
theorem Vals.dropLast {xs : List V} {us : List Value} (h : Vals xs us) : Vals xs.dropLast us.dropLast := by
  induction h with
  | nil => exact .nil
  | cons r t ih =>
    cases t with
    | nil => exact .nil
    | cons q t' => exact .cons r ih
theorem Vals.reverse {xs : List V} {us : List Value} (h : Vals xs us) : Vals xs.reverse us.reverse := by
  induction h with
  | nil => exact .nil
  | cons r t ih => rw [List.reverse_cons, List.reverse_cons]; exact Vals.append ih (.cons r .nil)
theorem Vals.rep {xs : List V} {us : List Value} (h : Vals xs us) : ∀ k : Nat, Vals (List.replicate k xs).flatten (List.replicate k us).flatten := by
  intro x_0
  induction x_0 with
  | zero =>
    exact .nil
  | succ k ih_ =>
    rw [List.replicate_succ, List.replicate_succ, List.flatten_cons, List.flatten_cons]
    exact Vals.append h (ih_)
theorem foldl_rep (its : List Value) : ∀ (k : Nat) (acc : List Value),
    List.foldl (fun x1 x2 => x1 ++ x2) acc.toArray (List.replicate k its.toArray) = (acc ++ (List.replicate k its).flatten).toArray := by
  intro x_0
  induction x_0 with
  | zero =>
    intro acc
    simp
  | succ k ih_ =>
    intro acc
    have e : acc.toArray ++ its.toArray = (acc ++ its).toArray := by simp
    have e2 : (acc ++ its) ++ (List.replicate k its).flatten = acc ++ (List.replicate (k + 1) its).flatten := by
      rw [List.replicate_succ, List.flatten_cons, List.append_assoc]
    rw [← e2, ← ih_ (acc ++ its), ← e, List.replicate_succ, List.foldl_cons]
section
variable {X : Cx} {pins : List (Addr × Obj)} {σ : St} {H : Hp} {s : Shared} {l b : Addr} {xs ys zs : List V}
theorem Inv.lset {its its' : List Value} {n : Nat} {f : Array Value → Array Value} {t' : Nat} (I : Inv X pins σ H s) (hH : H l = some (.lst xs))
    (e : s.heap.get? l = some { cls := .type "list", data := .seq its.toArray n }) (hf : f its.toArray = its'.toArray) (hv : Vals ys its') (hz : ys.length ≤ sizeLine) :
    Inv X pins σ (upd H l (.lst ys)) { s with heap := s.heap.update l (Obj.mapSeq f), toks := t' } := by
  have q := PySem.IsL.update e f
  rw [hf] at q
  refine I.write (x := l) (e := l) (by rw [hH]; exact trivial) (.inl rfl) (fun b' u hb hu => (Heap.get?_update_other s.heap (Obj.mapSeq f) (Ne.symm hb)).trans hu) ⟨_, q⟩ ?_
  exact ⟨hz, its', _, hv, q⟩
theorem Inv.lnew {its : List Value} {t' : Nat} (I : Inv X pins σ H s) (hv : Vals ys its) (hz : ys.length ≤ sizeLine) :
    Inv X pins σ (upd H s.heap.objs.size (.lst ys)) { s with heap := s.heap.push { cls := .type "list", data := .seq its.toArray }, toks := t' } :=
  I.laid (fun _ _ q => Heap.get?_push_of_some _ q) (Nat.le_refl _) ⟨hz, its, 0, hv, Heap.get?_push_size _ rfl⟩
theorem Inv.fresh (I : Inv X pins σ H s) : H s.heap.objs.size = none := I.hok.fresh (Nat.le_refl _)
theorem Inv.lstM (I : Inv X pins σ H s) (hH : H l = some (.lst xs)) : xs.length ≤ sizeLine ∧ ∃ (its : List Value) (n : Nat), Vals xs its ∧ xs.length = its.length ∧ s.heap.get? l = some { cls := .type "list", data := .seq its.toArray n } := by
  obtain ⟨z, its, n, r, e⟩ := I.hok l _ hH
  exact ⟨z, its, n, r, r.length, e⟩
theorem notLongL {n : Nat} (h : n ≤ sizeLine) : Builtin.List.listTooLong n = false := by
  unfold Builtin.List.listTooLong
  exact decide_eq_false (by exact Nat.not_lt.mpr ‹_›)
end
section
variable {X : Cx}
def rAppend : V → List V → Hp → VK → Prop := fun x vs H Q => ∃ l xs y, x = .ref l ∧ vs = [y] ∧ H l = some (.lst xs) ∧ xs.length < sizeLine ∧ Q .non (upd H l (.lst (xs ++ [y])))
theorem mt_append : MtM X "list.append" rAppend := by
  intro pins s σ H x vs v us Q I rx rv h
  obtain ⟨l, xs, y, rfl, rfl, hH, hz, q⟩ := h
  subst rx
  obtain ⟨u, rfl, ru⟩ := rv.one
  obtain ⟨z, its, n, r, hl, e⟩ := I.lstM hH
  refine call_meets F.slot_list_append ⟨_, e, rfl⟩ F.entry_list_append (F.args_list_append_2 _ _) (PySem.list_append l its.toArray n u (by rw [List.size_toArray]; omega)) ⟨e, ?_⟩
  refine ⟨.non, _, I.lset (its' := its ++ [u]) hH e (by simp) (r.append (.cons ru .nil)) ?_, rfl, q⟩
  rw [List.length_append, List.length_singleton]
  assumption
def rClear : V → List V → Hp → VK → Prop := fun x vs H Q => ∃ l xs, x = .ref l ∧ vs = [] ∧ H l = some (.lst xs) ∧ Q .non (upd H l (.lst []))
theorem mt_clear : MtM X "list.clear" rClear := by
  intro pins s σ H x vs v us Q I rx rv h
  obtain ⟨l, xs, rfl, rfl, hH, q⟩ := h
  subst rx
  have hus := rv.zero
  subst hus
  obtain ⟨z, its, n, r, hl, e⟩ := I.lstM hH
  refine call_meets F.slot_list_clear ⟨_, e, rfl⟩ F.entry_list_clear (F.args_list_clear_1 _) (AutoSeq1.list_clear_list_0 l its.toArray n (by rw [List.size_toArray]; omega)) ⟨e, ?_⟩
  exact ⟨.non, _, I.lset (its' := []) (ys := []) hH e rfl .nil (Nat.zero_le _), rfl, q⟩
def rRep : R2 := fun x y H Q => ∃ l k xs, x = .ref l ∧ y = .int k ∧ Rd H l (.lst xs) ∧ -(2 ^ 63) ≤ k ∧ k < 2 ^ 63 ∧ xs.length * k.toNat ≤ sizeLine ∧
  ∀ p, H p = none → Q (.ref p) (upd H p (.lst (List.replicate k.toNat xs).flatten))
theorem len_rep {α : Type} (xs : List α) (k : Nat) : (List.replicate k xs).flatten.length = k * xs.length := by
  induction k with
  | zero => simp
  | succ k ih => rw [List.replicate_succ, List.flatten_cons, List.length_append, ih, Nat.succ_mul, Nat.add_comm]
theorem op_rep : OpR X (binaryOp .Mult) rRep := by
  intro pins s σ H x y v u Q I rx ry h
  obtain ⟨l, k, xs, rfl, rfl, hH, h1, h2, hz, q⟩ := h
  subst rx
  obtain ⟨t, rfl⟩ := ry
  obtain ⟨z, its, n, r, e⟩ := hH.ok I.hok
  have hl := r.length
  have hlen : its.toArray.size * k.toNat ≤ sizeLine := by rw [List.size_toArray, ← hl]; exact hz
  have hcap : ¬ its.toArray.size * k.toNat > (2 ^ 63 - 1) / 8 := by
    have : (sizeLine : Nat) ≤ (2 ^ 63 - 1) / 8 := by decide
    omega
  have hfit : ¬ (!Builtin.List.listFitsIndex k) = true := by
    rw [fitsIndex_both h1 h2]
    exact Bool.false_ne_true
  have hlong : ¬ Builtin.List.listTooLong (its.toArray.size * k.toNat) = true := by
    rw [notLongL hlen]
    exact Bool.false_ne_true
  have hnew : List.foldl (fun x1 x2 => x1 ++ x2) #[] (List.replicate (if its.toArray.isEmpty = true then 0 else k.toNat) its.toArray) = (List.replicate k.toNat its).flatten.toArray := by
    have f0 : ∀ m : Nat, List.foldl (fun x1 x2 => x1 ++ x2) #[] (List.replicate m its.toArray) = (List.replicate m its).flatten.toArray := fun m => by
      have := foldl_rep its m []
      rw [List.nil_append] at this
      exact this
    rw [f0]
    cases its with
    | nil => simp
    | cons a r' => rw [if_neg (by simp)]
  refine wpAny_binaryOp_repeat_ref (T := "list") (U := "int") (by decide) ⟨_, e, rfl⟩ (fun s' => typeIs_int s' k t) noFill_list_mul F.fills_int_mul F.slot_int_rmul repeat_list F.slot_int_index.lookup
    (call_meets F.slot_int_rmul (typeIs_int s k t) F.entry_int_rmul (F.args_int_rmul_2 _ _) (int___rmul___int_list k t l its.toArray n)
      ⟨e, rfl, ⟨_, e, rfl⟩, call_meets F.slot_list_mul ⟨_, e, rfl⟩ F.entry_list_mul (F.args_list_mul_2 _ _) (AutoListH.list___mul___list_int_3 l its.toArray n k t hfit hcap hlong) ⟨e, ?_⟩⟩)
  rw [hnew]
  exact ⟨.ref _, _, I.lnew (t' := s.toks) (r.rep k.toNat) (by rw [len_rep, Nat.mul_comm]; exact hz), rfl, q _ I.fresh⟩
end
section
variable {prog : Program} {w : World} {A : Around} {E : Value → Shared → Prop} {s : Shared}
end
section
variable {X : Cx}
end
section
variable {κ : Type} [DecidableEq κ]
def valV (kvs : List (κ × V)) (k : κ) : Option V := (kvs.find? fun kv => decide (kv.1 = k)).map (·.2)
def putK (kvs : List (κ × V)) (k : κ) (v : V) : List (κ × V) :=
  if (kvs.any fun kv => decide (kv.1 = k)) = true then kvs.map (fun kv => if kv.1 = k then (kv.1, v) else kv) else kvs ++ [(k, v)]
theorem valV_pos {p : κ × V} {r : List (κ × V)} {k : κ} (e : p.1 = k) : valV (p :: r) k = some p.2 := by simp [valV, List.find?_cons, e]
theorem valV_neg {p : κ × V} {r : List (κ × V)} {k : κ} (e : ¬ p.1 = k) : valV (p :: r) k = valV r k := by simp [valV, List.find?_cons, e]
theorem valV_any (k : κ) : ∀ kvs : List (κ × V), (kvs.any fun kv => decide (kv.1 = k)) = (valV kvs k).isSome := by
  intro x_0
  induction x_0 with
  | nil =>
    exact rfl
  | cons p r ih_ =>
    rw [List.any_cons]
    by_cases e : p.1 = k
    · simp only [valV_pos e, decide_eq_true e, Bool.true_or, Option.isSome_some]
    · rw [valV_neg e, decide_eq_false e, Bool.false_or]; exact ih_
theorem RelO.isSome_eq {o : Option V} {u : Option Value} (r : RelO o u) : o.isSome = u.isSome := by
  cases o with
  | none => cases u with
    | none => rfl
    | some _ => exact (show False from r).elim
  | some _ => cases u with
    | none => exact (show False from r).elim
    | some _ => rfl
theorem RelO.getD {o : Option V} {u : Option Value} {d : V} {d' : Value} (r : RelO o u) (rd : RelV d d') : RelV (o.getD d) (u.getD d') := by
  cases o with
  | none => cases u with
    | none => exact rd
    | some _ => exact (show False from r).elim
  | some _ => cases u with
    | none => exact (show False from r).elim
    | some _ => exact r
theorem KV.val {kvs : List (κ × V)} {vs : List (κ × Value)} (r : KV kvs vs) (k : κ) : RelO (valV kvs k) (valueAt vs k) := by
  unfold KV at r
  induction r with
  | nil => exact True.intro
  | @cons p q ps qs h t ih =>
    obtain ⟨h1, h2⟩ := h
    by_cases e : p.1 = k
    · have e' : q.1 = k := h1.symm.trans e
      have b : valueAt (q :: qs) k = some q.2 := by simp [valueAt, List.find?_cons, e']
      rw [valV_pos e, b]; exact h2
    · have e' : ¬ q.1 = k := fun z => e (h1.trans z)
      have b : valueAt (q :: qs) k = valueAt qs k := by simp [valueAt, List.find?_cons, e']
      rw [valV_neg e, b]; exact ih
theorem KV.any {kvs : List (κ × V)} {vs : List (κ × Value)} (r : KV kvs vs) (k : κ) : (kvs.any fun kv => decide (kv.1 = k)) = vs.any fun kv => decide (kv.1 = k) := by
  unfold KV at r
  induction r with
  | nil => rfl
  | cons h t ih => rw [List.any_cons, List.any_cons, ih, h.1]
theorem KV.repl {kvs : List (κ × V)} {vs : List (κ × Value)} (r : KV kvs vs) (k : κ) {y : V} {u : Value} (ry : RelV y u) :
    KV (kvs.map fun kv => if kv.1 = k then (kv.1, y) else kv) (vs.map fun kv => if kv.1 = k then (kv.1, u) else kv) := by
  unfold KV at r ⊢
  induction r with
  | nil => exact .nil
  | @cons p q ps qs h t ih =>
    rw [List.map_cons, List.map_cons]
    refine .cons ?_ ih
    obtain ⟨h1, h2⟩ := h
    by_cases e : p.1 = k
    · rw [if_pos e, if_pos (h1.symm.trans e)]; exact ⟨h1, ry⟩
    · rw [if_neg e, if_neg (fun z => e (h1.trans z))]; exact ⟨h1, h2⟩
theorem KV.put {kvs : List (κ × V)} {vs : List (κ × Value)} (r : KV kvs vs) (k : κ) {y : V} {u : Value} (ry : RelV y u) : KV (putK kvs k y) (stored vs k u) := by
  unfold putK stored
  rw [r.any k]
  by_cases e : (vs.any fun kv => decide (kv.1 = k)) = true
  · rw [if_pos e, if_pos e]; exact r.repl k ry
  · rw [if_neg e, if_neg e]; exact Paired.snoc r ⟨rfl, ry⟩
theorem KV.keys {kvs : List (κ × V)} {vs : List (κ × Value)} (r : KV kvs vs) : kvs.map (·.1) = vs.map (·.1) := by
  unfold KV at r
  induction r with
  | nil => rfl
  | cons h t ih => rw [List.map_cons, List.map_cons, ih, h.1]
theorem KV.length {kvs : List (κ × V)} {vs : List (κ × Value)} (r : KV kvs vs) : kvs.length = vs.length := Paired.length r
end
theorem kV_is {P : Program} {w : World} {k : Key} {u : Value} (r : RelV (kV k) u) : (mixKind P w).is k u = true := by
  cases k with
  | inl i => obtain ⟨t, e⟩ := (show ∃ t, u = Value.int i t from r); subst e; exact mixKind_int P w i t
  | inr x => obtain ⟨t, e⟩ := (show ∃ t, u = Value.str x t from r); subst e; exact mixKind_str P w x t
theorem items_are {P : Program} {w : World} : ∀ {ks : List Key} {us : List Value}, Vals (ks.map kV) us → ItemsAre (mixKind P w) ks us := by
  intro x_0
  induction x_0 with
  | nil =>
    intro _ r
    rw [List.map_nil] at r; cases r; exact .nil
  | cons k ks ih_ =>
    intro _ r
    rw [List.map_cons] at r
    cases r with
    | cons h t => exact .cons (kV_is h) (ih_ t)
abbrev KT (H : Hp) : List (List Key × V) → List (List Key × Addr × Value) → Prop := Paired fun p q => p.1 = q.1 ∧ H q.2.1 = some (.tup (p.1.map kV)) ∧ RelV p.2 q.2.2
theorem KT.val {H : Hp} {kvs : List (List Key × V)} {xs : List (List Key × Addr × Value)} (r : KT H kvs xs) (k : List Key) : RelO (valV kvs k) ((atKey xs k).map (·.2)) := by
  induction r with
  | nil => exact True.intro
  | @cons p q ps qs h t ih =>
    obtain ⟨h1, _, h2⟩ := h
    by_cases e : p.1 = k
    · have e' : q.1 = k := h1.symm.trans e
      have b : atKey (q :: qs) k = some q.2 := by simp [atKey, List.find?_cons, e']
      rw [valV_pos e, b]; exact h2
    · have e' : ¬ q.1 = k := fun z => e (h1.trans z)
      have b : atKey (q :: qs) k = atKey qs k := by simp [atKey, List.find?_cons, e']
      rw [valV_neg e, b]; exact ih
theorem KT.repl {H : Hp} {kvs : List (List Key × V)} {xs : List (List Key × Addr × Value)} (r : KT H kvs xs) (k : List Key) {y : V} {u : Value} (ry : RelV y u) :
    KT H (kvs.map fun kv => if kv.1 = k then (kv.1, y) else kv) (xs.map (putAt k u)) := by
  induction r with
  | nil => exact .nil
  | @cons p q ps qs h t ih =>
    rw [List.map_cons, List.map_cons]
    refine .cons ?_ ih
    obtain ⟨h1, h2, h3⟩ := h
    unfold putAt
    by_cases e : p.1 = k
    · rw [if_pos e, if_pos (h1.symm.trans e)]; exact ⟨h1, h2, ry⟩
    · rw [if_neg e, if_neg (fun z => e (h1.trans z))]; exact ⟨h1, h2, h3⟩
theorem KT.put {H : Hp} {kvs : List (List Key × V)} {xs : List (List Key × Addr × Value)} (r : KT H kvs xs) (k : List Key) {b : Addr} {y : V} {u : Value} (hb : H b = some (.tup (k.map kV))) (ry : RelV y u) :
    KT H (putK kvs k y) (storedH xs k b u) := by
  have e : (kvs.any fun kv => decide (kv.1 = k)) = (atKey xs k).isSome := by
    rw [valV_any, (r.val k).isSome_eq, Option.isSome_map]
  unfold putK storedH
  rw [e]
  by_cases q : (atKey xs k).isSome = true
  · rw [if_pos q, if_pos q]; exact r.repl k ry
  · rw [if_neg q, if_neg q]; exact Paired.snoc r ⟨rfl, hb, ry⟩
theorem KT.keeps {H H' : Hp} {kvs : List (List Key × V)} {xs : List (List Key × Addr × Value)} (r : KT H kvs xs) (ht : ∀ b ys, H b = some (.tup ys) → H' b = some (.tup ys)) : KT H' kvs xs :=
  Paired.mapP r fun _ _ z => ⟨z.1, ht _ _ z.2.1, z.2.2⟩
section
variable {P : Program} {w : World} {H : Hp} {h : Heap} {a : Addr}
theorem rd_of {u : HO} (ok : HOk P w H h) (e : Rd H a u) : ObjOk P w H h a u := e.ok ok
theorem dk_rd {kvs : List (Key × V)} (ok : HOk P w H h) (e : Rd H a (.dK kvs)) : ODic P w h a kvs :=
  show ObjOk P w H h a (.dK kvs) from rd_of ok e
theorem key_of {ks : List Key} (ok : HOk P w H h) (e : H a = some (.tup (ks.map kV))) : (tupleKind (mixKind P w)).is h ks a := by
  obtain ⟨_, its, r, o, h1, h2, n, h3⟩ := (show ObjOk P w H h a (.tup (ks.map kV)) from ok a _ e)
  exact ⟨o, its.toArray, n, h1, h2, h3, by simpa using items_are r⟩
theorem dt_rd {kvs : List (List Key × V)} (ok : HOk P w H h) (e : Rd H a (.dT kvs)) : kvs.length ≤ sizeLine ∧ (a == sysModules) = false ∧
    ∃ xs, KT H kvs xs ∧ h.DictOfH (tupleKind (mixKind P w)) a xs := by
  obtain ⟨z, y, xs, r, o, es, ep, h1, h2, h3, h4, h5⟩ := (show ObjOk P w H h a (.dT kvs) from rd_of ok e)
  refine ⟨z, y, xs, r, o, es, ep, h1, h2, h3, h4, fun x hx => ?_, h5⟩
  have all : ∀ {l : List (List Key × V)} {m : List (List Key × Addr × Value)}, KT H l m → ∀ x ∈ m, (tupleKind (mixKind P w)).is h x.1 x.2.1 := by
    intro l m q
    induction q with
    | nil => intro x hx; exact nomatch hx
    | @cons p q ps qs hq t ih =>
      intro x hx
      rcases List.mem_cons.mp hx with e | hx
      · subst e
        exact key_of ok (by rw [← hq.1]; exact hq.2.1)
      · exact ih x hx
  exact all r x hx
end
def DGet (H : Hp) (a : Addr) (y : V) (r : Option V) : Prop :=
  (∃ kvs k, Rd H a (.dK kvs) ∧ y = kV k ∧ r = valV kvs k) ∨ ∃ kvs k b, Rd H a (.dT kvs) ∧ y = .ref b ∧ H b = some (.tup (k.map kV)) ∧ r = valV kvs k
def DPut (H : Hp) (a : Addr) (y v : V) (H' : Hp) : Prop :=
  (∃ kvs k, H a = some (.dK kvs) ∧ y = kV k ∧ kvs.length < sizeLine ∧ H' = upd H a (.dK (putK kvs k v))) ∨
  ∃ kvs k b, H a = some (.dT kvs) ∧ y = .ref b ∧ H b = some (.tup (k.map kV)) ∧ kvs.length < sizeLine ∧ H' = upd H a (.dT (putK kvs k v))
theorem DGet.t {H : Hp} {a b : Addr} {kvs : List (List Key × V)} {k : List Key} (e : H a = some (.dT kvs)) (eb : H b = some (.tup (k.map kV))) : DGet H a (.ref b) (valV kvs k) := .inr ⟨kvs, k, b, .inl e, rfl, eb, rfl⟩
theorem DPut.k {H : Hp} {a : Addr} {kvs : List (Key × V)} {k : Key} {v : V} (e : H a = some (.dK kvs)) (hl : kvs.length < sizeLine) : DPut H a (kV k) v (upd H a (.dK (putK kvs k v))) := .inl ⟨kvs, k, e, rfl, hl, rfl⟩
theorem DPut.t {H : Hp} {a b : Addr} {kvs : List (List Key × V)} {k : List Key} {v : V} (e : H a = some (.dT kvs)) (eb : H b = some (.tup (k.map kV))) (hl : kvs.length < sizeLine) :
    DPut H a (.ref b) v (upd H a (.dT (putK kvs k v))) := .inr ⟨kvs, k, b, e, rfl, eb, hl, rfl⟩
section
variable {X : Cx} {pins : List (Addr × Obj)} {σ : St} {H : Hp} {s : Shared} {a : Addr} {y v : V} {u r : Value} {o : Option V} {A : Around} {E : Value → Shared → Prop}
theorem d_in {Q : Value → Shared → Prop} (hu : A.units + 1 < cLine) (I : Inv X pins σ H s) (g : DGet H a y o) (ry : RelV y u) (h : ∀ s', Inv X pins σ H s' → Q (.bool o.isSome) s') :
    wpAny (model X.prog X.w) A (compareOp .In u (.ref a)) Q E s := by
  rcases g with ⟨kvs, k, e, ey, l⟩ | ⟨kvs, k, b, e, ey, eb, l⟩
  · subst ey
    obtain ⟨z, hd, vs, rel, dd⟩ := dk_rd I.hok e
    refine wpAny_in_of (kV_is ry) hd dd.mapOf ?_
    rw [← (rel.val k).isSome_eq, ← l]
    exact h _ (I.tok _)
  · subst ey
    cases (show u = Value.ref b from ry)
    obtain ⟨z, hd, xs, rel, dd⟩ := dt_rd I.hok e
    refine wpAny_in_heap (tupleKind_room_in1 hu) (key_of I.hok eb) hd dd ?_
    have q := (rel.val k).isSome_eq
    rw [Option.isSome_map] at q
    rw [← q, ← l]
    exact h _ (I.tok _)
theorem d_notIn {Q : Value → Shared → Prop} (hu : A.units + 1 < cLine) (I : Inv X pins σ H s) (g : DGet H a y o) (ry : RelV y u) (h : ∀ s', Inv X pins σ H s' → Q (.bool (!o.isSome)) s') :
    wpAny (model X.prog X.w) A (compareOp .NotIn u (.ref a)) Q E s := by
  rcases g with ⟨kvs, k, e, ey, l⟩ | ⟨kvs, k, b, e, ey, eb, l⟩
  · subst ey
    obtain ⟨z, hd, vs, rel, dd⟩ := dk_rd I.hok e
    refine wpAny_notIn_of (kV_is ry) hd dd.mapOf ?_
    rw [← (rel.val k).isSome_eq, ← l]
    exact h _ (I.tok _)
  · subst ey
    cases (show u = Value.ref b from ry)
    obtain ⟨z, hd, xs, rel, dd⟩ := dt_rd I.hok e
    refine wpAny_notIn_heap (tupleKind_room_in1 hu) (key_of I.hok eb) hd dd ?_
    have q := (rel.val k).isSome_eq
    rw [Option.isSome_map] at q
    rw [← q, ← l]
    exact h _ (I.tok _)
end
section
variable {X : Cx} {pins : List (Addr × Obj)} {σ : St} {H : Hp} {s : Shared} {a : Addr} {kvs : List (Key × V)} {k : Key} {u : Value} {A : Around} {E : Value → Shared → Prop}
theorem d_len {Q : Value → Shared → Prop} (I : Inv X pins σ H s) (e : Rd H a (.dK kvs)) (h : ∀ t s', Inv X pins σ H s' → Q (.int kvs.length t) s') : wpAny (model X.prog X.w) A (call (.builtin "len") [.ref a]) Q E s := by
  obtain ⟨z, hd, vs, rel, dd⟩ := dk_rd I.hok e
  refine call_len_dict hd dd (by rw [← rel.length]; rw [sizeLine_eq] at z; omega) ?_
  rw [← rel.length]
  exact h _ _ (I.tok _)
end
section
variable {X : Cx} {o i e value : Expr} {pos pos' tpos : Pos} {td ty tv : TE}
end
section
variable {X : Cx} {pos : Pos}
end
def IsD (H : Hp) (a : Addr) : Prop := (∃ kvs, Rd H a (.dK kvs)) ∨ ∃ kvs, Rd H a (.dT kvs)
section
variable {X : Cx} {pins : List (Addr × Obj)} {σ : St} {H : Hp} {s : Shared} {a : Addr} {y d : V} {u r : Value} {o : Option V} {A : Around} {E : Value → Shared → Prop}
end
section
variable {X : Cx} {o e f : Expr} {apos cpos : Pos} {td ty tx : TE}
end
section
variable {X : Cx} {pins : List (Addr × Obj)} {σ : St} {H : Hp} {s : Shared} {a : Addr} {kvs : List (Key × V)} {A : Around} {E : Value → Shared → Prop}
end
section
variable {X : Cx} {pins : List (Addr × Obj)} {σ : St} {H : Hp} {s : Shared} {a : Addr} {y : V} {u : Value} {A : Around} {E : Value → Shared → Prop}
end
end L2
namespace Att
open PySem PySem.W PySem.Calls PyProof.Rows
theorem ints_of_wellAll {P : Params} {h : Heap} : ∀ (ns : List Int) (vs : List Value), WellAll P h vs (ns.map WData.int) → IntsAre vs ns := by
  intro ns
  induction ns with
  | nil =>
    intro vs w
    rw [List.map_nil] at w
    cases w
    exact .nil
  | cons n ns ih =>
    intro vs w
    rw [List.map_cons] at w
    cases w with
    | cons a b =>
      cases a
      exact .cons _ _ (ih _ b)
theorem script_of {l : OpenLaw} {n : Nat} (hn : l.most = some n) {P : Params} {h : Heap} {args : List WData} {vals : List Value}
    (hpre : l.row.toRowW.claim.pre args = true) (hwl : WellAll P h vals args) :
    ∃ a vs ns, vals = [Value.ref a] ∧ args = [WData.list (ns.map WData.int)] ∧ h.get? a = some { cls := .type "list", data := .seq vs.toArray } ∧ IntsAre vs ns ∧ ns.length ≤ n := by
  have hsh : WShape.hasAll [] args [.list .int] = true := (pre_splitW hpre).1
  have hc : l.pre.holds [] { args := args } = true := (pre_splitW hpre).2
  obtain ⟨d, r, rfl, h1, h2⟩ := hasAllW_cons hsh
  obtain rfl := hasAllW_nil h2
  obtain ⟨xs, rfl, h3⟩ := hasW_list h1
  obtain ⟨ns, rfl⟩ := items_int h3
  have hlen : ns.length ≤ n := by
    unfold OpenLaw.pre at hc
    have h4 : (WTm.not (.lt (.lit (.int (n : Int))) (.len (.arg 0)))).holds [] { args := [.list (ns.map .int)] } = true := by
      have h4 := (holds_andW hc).1
      rw [hn] at h4
      exact h4
    have h5 := condW_of h4 (w_not (w_lt w_lit (w_len_list (w_arg rfl))))
    rw [List.length_map] at h5
    refine Nat.le_of_not_lt fun q => ?_
    have q' : (n : Int) < ((ns.length : Nat) : Int) := by exact Int.ofNat_lt.mpr ‹_›
    first
      | (rw [decide_eq_true q'] at h5; exact absurd h5 (by decide))
      | (simp at h5; omega)
  cases hwl with
  | cons w1 w2 =>
    cases w2
    cases w1 with
    | list ho hall => exact ⟨_, _, ns, rfl, rfl, ho, ints_of_wellAll ns _ hall, hlen⟩
theorem post_true (l : OpenLaw) (args : List WData) : l.row.toRowW.claim.post args (.bool true) args = true :=
  postW_of (r := l.row.toRowW) (X := (true == true))
    (show WShape.has [] (.bool true) .bool = true by first | rfl | decide | simp [WShape.has, WShape.arms, WShape.armsAll])
    (show (WTm.eq .res (.lit (.bool true))).value [] { args := args, res := some (.bool true), after := args } = some (.bool (true == true)) from w_eq_bool (w_res rfl) w_lit) rfl
theorem attach_call {l : OpenLaw} {n : Nat} {q : Program} {loose : List Str} {XP : (Str → Option Value) → Heap → Prop} {YP : World → Heap → Prop} {d : DefRec}
    (hn : l.most = some n) (hdf : d.params.defaults = [])
    (call : ∀ (w : World) (s₀ s₁ : Shared) (mg mb : Str → Option Value) (fa : Addr) (o : Obj) (pm cd doc : Value) (a : Addr) (vs : List Value) (ns : List Int),
      Ground q loose [] XP w s₀ mg mb s₁.heap → YP w s₁.heap →
      s₁.heap.get? fa = some o → o.data = .func (docDef d.name d.params d.body d.scope pm cd doc) → s₁.heap.CodeRec cd d.name → mg d.name = some (.ref fa) →
      s₁.heap.get? a = some { cls := .type "list", data := .seq vs.toArray } → IntsAre vs ns → ns.length ≤ n → s₁.gens = #[] →
      codeAny (model l.prog w) callerA (.call (.ref fa) ⟨[.ref a], []⟩) (fun r s' => r = .ok (.ret (.bool true)) ∧ OldK s₁.heap s'.heap ∧ s'.os = s₁.os ∧ AllBare s'.gens) s₁) :
    WalkO q loose XP YP l.row.toRowW d [] (fun f vs => PySem.call f vs) := by
  intro w s₀ s₁ mg mb G Y fa o pm cd doc dV kV ho hd hcd hD hmg hg args vals as hpre hlay hrd hwl hlo
  obtain rfl : dV = .none := Dflts.none hD hdf
  obtain rfl : kV = .none := Dflts.noKw hD
  obtain ⟨a, vs, ns, rfl, rfl, hobj, hints, hlen⟩ := script_of hn hpre hwl
  refine enter_call (codeAny_mono (call w s₀ s₁ mg mb fa o pm cd doc a vs ns G Y ho (fd_plain hd) hcd hmg hobj hints hlen hg) fun r s' hq => ?_)
  obtain ⟨rfl, h2, h3, h4⟩ := hq
  exact ⟨.inl ⟨.bool true, .bool true, [], rfl, fun _ => rfl, .bool true, post_true l _, fun _ => ⟨List.Pairwise.nil, fun _ hm => (nomatch hm)⟩⟩, h2, h3, h4⟩
section
variable {prog : Program} {w : World} {A : Around} {E : Value → Shared → Prop} {s : Shared} {K : Frag}
end
end Att
namespace L2
open PySem PySem.Spec PyProof.Rows
theorem vals_ints : ∀ {vs : List Value} {ns : List Int}, IntsAre vs ns → Vals (ns.map V.int) vs := by
  intro vs ns h
  induction h with
  | nil => exact .nil
  | cons n t h ih => exact .cons ⟨t, rfl⟩ ih
def Only (H : Hp) : Prop := ∀ b, H b = none ∨ ∃ o xs, H b = some (.frz o (.lst xs))
theorem law_call {P : Program} {w : World} {K : PySem.W.Frag} {mg mb : Str → Option Value} {CX : CXT} {k : Nat} {fa a : Addr} {fd : FuncData} {x : Str} {sp : Sp} {s₁ : Shared} {vs : List Value} {ns : List Int}
    (KX : K.In s₁.heap) (hns : s₁.heap.Ns mainGlobals mg) (hb : s₁.heap.Ns builtinsNs mb) (hbb : ∀ x : Str, x ≠ "__name__" → mb x = bootBuiltins x) (hlim : s₁.heap.NoLimit) (hg : s₁.gens = #[])
    (ha : s₁.heap.get? a = some { cls := .type "list", data := .seq vs.toArray }) (hi : IntsAre vs ns) (hl : ns.length ≤ sizeLine) (hr : Room k callerA)
    (F : ∀ base : Heap, K.In base → base.Ns mainGlobals mg → FnOk P w K mg base CX k fa fd [x] sp) (hbind : ∀ (s : Shared) (u : Value), BindsTo s fd ⟨[u], []⟩ [(x, u)])
    (hsp : ∀ H : Hp, Only H → SqL K H a (ns.map V.int) → sp [.ref a] H (fun v _ => v = .bl true) fun _ _ _ => False)
    (hCX : ∀ H e s', CX [] H s₁ (fun _ _ _ => False) e s' → False) :
    codeAny (model P w) callerA (.call (.ref fa) ⟨[.ref a], []⟩) (fun r s' => r = .ok (.ret (.bool true)) ∧ OldK s₁.heap s'.heap ∧ s'.os = s₁.os ∧ AllBare s'.gens) s₁ := by
  have rv := vals_ints hi
  have lenV := hi.length
  have core : ∀ H : Hp, Only H → SqL K H a (ns.map V.int) → HOk P w H s₁.heap → (∀ b, H b ≠ none → b = a) → (H a ≠ none → K.lookup a = none) →
      codeAny (model P w) callerA (.call (.ref fa) ⟨[.ref a], []⟩) (fun r s' => r = .ok (.ret (.bool true)) ∧ OldK s₁.heap s'.heap ∧ s'.os = s₁.os ∧ AllBare s'.gens) s₁ := by
    intro H hO hS hok hA hK
    have base_of : ∀ {b : Addr} {o : Obj}, s₁.heap.get? b = some o → H b = none → (hidT s₁.heap H).get? b = some o := fun e n => hidT_get e n
    have noA : ∀ {b : Addr} {o : Obj} {es : Array DictEntry} {ep : Nat}, s₁.heap.get? b = some o → o.data = .dict es ep → H b = none := fun {b o es ep} e d => by
      cases q : H b with
      | none => rfl
      | some u =>
        have e' : b = a := hA b (by rw [q]; simp)
        subst e'
        rw [ha] at e; (injection e with e; subst e)
        have d' : Data.seq vs.toArray _ = Data.dict es ep := d
        injection d'
    have nsK : ∀ {b : Addr} {m : Str → Option Value}, s₁.heap.Ns b m → (hidT s₁.heap H).Ns b m := fun {b m} ⟨o, es, ep, e, d, r⟩ => ⟨o, es, ep, base_of e (noA e d), d, r⟩
    have hKb : K.In (hidT s₁.heap H) := fun b o e => base_of (KX b o e) (by
      cases q : H b with
      | none => rfl
      | some u =>
        have e' : b = a := hA b (by rw [q]; simp)
        subst e'
        rw [hK (by rw [q]; simp)] at e; injection e)
    have hM : Mod K mg (hidT s₁.heap H) := ⟨hKb, nsK hns, ⟨mb, nsK hb, hbb⟩, let ⟨mc, h1, h2⟩ := hlim; ⟨mc, nsK h1, h2⟩⟩
    have e0 : Env0 P w K mg (hidT s₁.heap H) callerA [] s₁ H := ⟨rfl, hM, fun b o e => of_hidT e, Nat.le_of_eq (hidT_size _ _), trivial, fun b hb => absurd (show b ∈ ([] : List Addr) from hb) (by simp), hok, .of_eq hg⟩
    refine codeAny_mono ((F _ hKb (nsK hns)).run callerA [] s₁ H ⟨[.ref a], []⟩ [.ref a] [.ref a] _ _ hr e0 (hbind s₁ (.ref a)) (.cons rfl .nil) (hsp H hO hS)) fun r s' h => ?_
    cases r with
    | error e => exact (hCX H e s' h).elim
    | ok fl =>
      cases fl with
      | next => exact False.elim h
      | brk => exact False.elim h
      | cont => exact False.elim h
      | ret u =>
        obtain ⟨v, H', os, bare, un, hok', r', q⟩ := h
        have q' : v = .bl true := q
        subst q'
        obtain rfl : u = Value.bool true := r'
        refine ⟨rfl, OldK.of_keep fun b o e => ?_, os, bare⟩
        cases q : H b with
        | none => exact un.keep b o e q (by intro z; exact absurd (show b ∈ ([] : List Addr) from z) (by simp)) (by simp)
        | some u =>
          rcases hO b with z | ⟨ob, xs, z⟩
          · rw [q] at z; injection z
          · have z2 := un.frzs b ob _ z
            obtain ⟨e1, _⟩ := hok b _ z
            obtain ⟨e2, _⟩ := hok' b _ z2
            rw [e] at e1; (injection e1 with e1; subst e1)
            exact e2
  cases hk : K.lookup a with
  | some o =>
    have e := KX a o hk
    rw [ha] at e
    (injection e with e; subst e)
    refine core (fun _ => none) (fun _ => .inl rfl) (.inr ⟨_, vs.toArray, _, hk, rfl, rfl, rfl, by rw [List.size_toArray, lenV]; exact hl, by simpa using rv⟩) (fun b u z => by have z' : (none : Option HO) = some u := z; injection z') (fun b z => absurd rfl z) fun z => absurd rfl z
  | none =>
    refine core (fun b => if b = a then some (.frz { cls := .type "list", data := .seq vs.toArray } (.lst (ns.map V.int))) else none) (fun b => ?_) (.inl (.inr ⟨{ cls := .type "list", data := .seq vs.toArray }, if_pos rfl⟩)) (fun b u z => ?_) (fun b z => ?_) fun _ => hk
    · by_cases hb : b = a
      · exact .inr ⟨_, _, if_pos hb⟩
      · exact .inl (if_neg hb)
    · by_cases hb : b = a
      · have z' := (if_pos hb).symm.trans z
        (injection z' with z'; subst z')
        subst hb
        exact ⟨ha, by rw [List.length_map]; exact hl, vs, _, rv, ha⟩
      · have z' := (if_neg hb).symm.trans z
        injection z'
    · by_cases hb : b = a
      · exact hb
      · exact absurd (if_neg hb) z
def inClass (s : Stmt) (j : Nat) : Stmt := match s with
  | .ClassDef _ _ _ body _ _ _ _ _ _ _ => body.getD j (.Pass ⟨0, 0, 0, 0⟩)
  | _ => .Pass ⟨0, 0, 0, 0⟩
def defArgs (s : Stmt) : Arguments := match s with
  | .FunctionDef _ a _ _ _ _ _ _ _ _ => a
  | _ => { posonlyargs := [], args := [], vararg := none, kwonlyargs := [], kw_defaults := [], kwarg := none, defaults := [] }
def defBody (s : Stmt) : List Stmt := match s with
  | .FunctionDef _ _ b _ _ _ _ _ _ _ => b
  | _ => []
def defScope (s : Stmt) : Scope := match s with
  | .FunctionDef _ _ _ _ _ _ sc _ _ _ => sc
  | _ => { kind := .function, names := [], isGenerator := false, isCoroutine := false }
abbrev CX0 : CXT := fun _ _ _ _ _ _ => False
abbrev E0 : XK := fun _ _ _ => False
theorem pass0 {X : Cx} : Passes CX0 X E0 := fun _ _ _ _ _ _ _ h => h.elim
structure Fun (K : PySem.W.Frag) (x qual : Str) (st : Stmt) (f : Addr) (fd : FuncData) : Prop where
  ex : ∃ (oc : Value) (od : Option Addr) (kV doc pm : Value) (an : Option Addr) (cdv ct : Value) (osl : Array (Option Value)),
    fd = PySem.W.fnOf x qual (defArgs st) (defBody st) (defScope st) .none kV doc pm an cdv ct ∧ K.lookup f = some ⟨oc, od, .func fd, osl⟩ ∧ PySem.W.codeIn K cdv qual = true
  kp : PySem.W.keepIn K (.ref f) = true
section
variable {P : Program} {w : World} {K : PySem.W.Frag} {mg : Str → Option Value} {base : Heap}
theorem Fun.ok {x qual : Str} {st : Stmt} {f : Addr} {fd : FuncData} {N ps : List Str} {k : Nat} {sp : Sp} (F : Fun K x qual st f fd) (S : FnScope N ps (defScope st)) (len : ∀ vs H Q E, sp vs H Q E → vs.length = ps.length)
    (hbody : ∀ (cdv : Value) (A : Around) (outer : List Env) (s : Shared) (H : Hp) (vs : List V) (Q : VK) (E : XK), Room k (A.deeper (envOfC qual (defScope st) s.heap.objs.size f cdv)) → sp vs H Q E →
      ∃ t, PSs (cxOf CX0 P w K mg base N qual (defScope st) f cdv A outer s H E).nox (defBody st) t ∧ t { nx := fun _ H' => Q .non H', rt := Q } (start N vs) H) : FnOk P w K mg base CX0 (k + 1) f fd ps sp := by
  obtain ⟨oc, od, kV, doc, pm, an, cdv, ct, osl, rfl, lk, hcd⟩ := F.ex
  refine fn_of lk hcd S len fun A outer s H vs Q E hr hsp => ?_
  obtain ⟨t, h, q⟩ := hbody cdv A outer s H vs Q E hr hsp
  exact ⟨t, h.nox, q⟩
theorem Fun.binds {x qual : Str} {st : Stmt} {f : Addr} {fd : FuncData} {ps : List Str} (F : Fun K x qual st f fd)
    (h : ∀ (kV doc pm : Value) (an : Option Addr) (cdv ct : Value) (us : List Value), us.length = ps.length → bindArgs (PySem.W.fnOf x qual (defArgs st) (defBody st) (defScope st) .none kV doc pm an cdv ct) ⟨us, []⟩ = pure (ps.zip us)) : Binds K fd ps [] := by
  obtain ⟨oc, od, kV, doc, pm, an, cdv, ct, osl, rfl, lk, hcd⟩ := F.ex
  exact .all (h kV doc pm an cdv ct)
end
section
variable {X : Cx}
end
theorem iteF {A B : Prop} (h : B) : if false = true then A else B := by
  rw [if_neg Bool.false_ne_true]
  exact h
theorem iteT {A B : Prop} (h : A) : if true = true then A else B := by
  rw [if_pos rfl]
  exact h
def Same (H H' : Hp) : Prop := ∀ b o, H b = some o → H' b = some o
theorem Same.refl (H : Hp) : Same H H := fun _ _ h => h
theorem Same.trans {H H1 H2 : Hp} (a : Same H H1) (b : Same H1 H2) : Same H H2 := fun c o h => b c o (a c o h)
theorem Same.free {H H' : Hp} (e : Same H H') {l : Addr} (h : H' l = Option.none) : H l = Option.none := by
  cases q : H l with
  | none => rfl
  | some o =>
    rw [e l o q] at h
    injection h
section
variable {κ : Type} [DecidableEq κ]
end
end L2
namespace PySem
def capt (cells : List (Str × Addr)) : List (Str × NameKind) → List (Str × Addr) → List (Str × Addr)
  | [], acc => acc
  | (n, k) :: r, acc => capt cells r (if k = NameKind.free then (match cells.lookup n with | some c => (n, c) :: acc | none => acc) else acc)
theorem capt_go (env : Env) : ∀ (l : List (Str × NameKind)) (acc : List (Str × Addr)), (∀ x ∈ l, x.2 = NameKind.free → ∃ c, env.cells.lookup x.1 = some c) →
    (forIn l acc (fun x cs => match x with
        | (name, kind) =>
          if (kind == NameKind.free) = true then do
            let c ← cellOf env name
            pure (ForInStep.yield ((name, c) :: cs))
          else pure (ForInStep.yield cs)) : Sem (List (Str × Addr))) = pure (capt env.cells l acc)
  | [], acc, _ => rfl
  | (n, k) :: r, acc, h => by
    rw [List.forIn_cons]
    by_cases hk : k = NameKind.free
    · subst hk
      obtain ⟨c, hc⟩ := h (n, NameKind.free) List.mem_cons_self rfl
      have hc' : env.cells.lookup n = some c := hc
      show ((if (NameKind.free == NameKind.free) = true then _ else _) >>= _) = _
      rw [if_pos (show (NameKind.free == NameKind.free) = true from rfl)]
      rw [show cellOf env n = pure c by unfold cellOf; rw [hc']]
      show (forIn r ((n, c) :: acc) _ : Sem _) = _
      rw [capt_go env r ((n, c) :: acc) (fun x hx => h x (List.mem_cons_of_mem _ hx))]
      show _ = pure (capt env.cells r (if NameKind.free = NameKind.free then (match env.cells.lookup n with | some c => (n, c) :: acc | none => acc) else acc))
      rw [if_pos rfl, hc']
    · have hb : (k == NameKind.free) = false := by simpa using hk
      show ((if (k == NameKind.free) = true then _ else _) >>= _) = _
      rw [hb, if_neg Bool.false_ne_true]
      show (forIn r acc _ : Sem _) = _
      rw [capt_go env r acc (fun x hx => h x (List.mem_cons_of_mem _ hx))]
      show _ = pure (capt env.cells r (if k = NameKind.free then (match env.cells.lookup n with | some c => (n, c) :: acc | none => acc) else acc))
      rw [if_neg hk]
theorem closure_capt {sc : Scope} {env : Env} (h : ∀ x ∈ sc.names, x.2 = NameKind.free → ∃ c, env.cells.lookup x.1 = some c) : closureFor sc env = pure (capt env.cells sc.names []) := by
  show (forIn sc.names ([] : List (Str × Addr)) _ >>= fun cs => pure cs) = _
  rw [capt_go env sc.names [] h]
  rfl
theorem capt_look {cells : List (Str × Addr)} : ∀ {l : List (Str × NameKind)} {acc : List (Str × Addr)} {x : Str} {c : Addr}, (capt cells l acc).lookup x = some c → acc.lookup x = some c ∨ (cells.lookup x = some c ∧ (x, NameKind.free) ∈ l)
  | [], _, _, _, h => .inl h
  | (n, k) :: r, acc, x, c, h => by
    rcases capt_look (l := r) h with h1 | ⟨h1, h2⟩
    · by_cases hk : k = NameKind.free
      · subst hk
        rw [if_pos rfl] at h1
        cases e : cells.lookup n with
        | none => rw [e] at h1; exact .inl h1
        | some d =>
          rw [e] at h1
          have h1 : List.lookup x ((n, d) :: acc) = some c := h1
          rw [List.lookup_cons] at h1
          cases hx : x == n with
          | true =>
            rw [hx] at h1
            have h1 : some d = some c := h1
            have hx' : x = n := by simpa using hx
            rw [hx', ← h1]
            exact .inr ⟨e, List.mem_cons_self⟩
          | false => rw [hx] at h1; exact .inl h1
      · rw [if_neg hk] at h1; exact .inl h1
    · exact .inr ⟨h1, List.mem_cons_of_mem _ h2⟩
set_option tactic.hygienic true in
theorem capt_keep {cells : List (Str × Addr)} : ∀ {l : List (Str × NameKind)} {acc : List (Str × Addr)} {x : Str}, (acc.lookup x).isSome = true → ((capt cells l acc).lookup x).isSome = true
  | [], _, _, h => h
  | (n, k) :: r, acc, x, h => by
    refine capt_keep (l := r) ?_
    split
    · split
      · rename_i d _
        show (List.lookup x ((n, d) :: acc)).isSome = true
        rw [List.lookup_cons]
        cases x == n
        · exact h
        · rfl
      · exact h
    · exact h
theorem capt_has {cells : List (Str × Addr)} : ∀ {l : List (Str × NameKind)} {acc : List (Str × Addr)} {x : Str} {c : Addr}, (x, NameKind.free) ∈ l → cells.lookup x = some c → ((capt cells l acc).lookup x).isSome = true
  | (n, k) :: r, acc, x, c, hm, hc => by
    rcases List.mem_cons.mp hm with e | hm
    · obtain ⟨e1, e2⟩ := Prod.mk.inj e
      subst e1; subst e2
      refine capt_keep (l := r) ?_
      rw [if_pos rfl, hc]
      simp
    · exact capt_has (l := r) hm hc
variable {prog : Program} {w : World} {A : Around} {R : Result → Shared → Prop} {s : Shared}
theorem compLoop_any {elt target iter : Expr} {ifs : List Expr} {scope : Scope} {pos : Pos} {it acc : Value} {env : Env} (I : Nat → Shared → Prop) (E' : Value → Shared → Prop) (hE : E' = notedBy (model prog w) A env fun e s' => R (.error e) s')
    (turn : ∀ n s, I n s → wpAny (model prog w) A (pyNext it) (fun r s₁ => match r with
      | none => R (.ok .next) s₁
      | some v => wpAny (model prog w) A (letOwnedTupleGo target it v) (fun _ s₀ => wpAny (model prog w) A (assign target env v) (fun _ s₂ =>
          wpAny (model prog w) A (forIn ifs true fun c r => if r = true then do let ok ← isTrue c env (eval c env); pure (ForInStep.yield ok) else pure (ForInStep.yield r)) (fun ok s₃ =>
            if ok = true then wpAny (model prog w) A (eval elt env) (fun x s₄ => wpAny (model prog w) A (call (.builtin "list.append") [acc, x]) (fun _ s₅ => ∃ m, m < n ∧ I m s₅) E' s₄) E' s₃
            else ∃ m, m < n ∧ I m s₃) E' s₂) E' s₀) E' s₁) E' s)
    (n : Nat) (h : I n s) :
    codeAny (model prog w) A (.compLoop (.ListComp elt [⟨target, iter, ifs, 0⟩] scope pos) 0 it acc env) R s := by
  subst hE
  refine codeAny_loop rfl I (fun n s hI => ?_) n h
  refine wpAny_noted (m := compTurn (.ListComp elt [⟨target, iter, ifs, 0⟩] scope pos) 0 it acc env) ?_
  rw [compTurn_list]
  refine wpAny_bind (wpAny_standAt (wpAny_bind (wpAny_mono (turn n s hI) (fun r s₁ h₁ => ?_) fun _ _ z => z)))
  cases r with
  | none => exact wpAny_pure h₁
  | some v =>
    refine wpAny_bind (wpAny_mono h₁ (fun _ s₀ h₀ => ?_) fun _ _ z => z)
    refine wpAny_bind (wpAny_mono h₀ (fun _ s₂ h₂ => ?_) fun _ _ z => z)
    refine wpAny_bind (wpAny_mono h₂ (fun ok s₃ h₃ => ?_) fun _ _ z => z)
    cases ok with
    | false => exact wpAny_pure ⟨rfl, h₃⟩
    | true =>
      refine wpAny_bind (wpAny_bind (wpAny_mono h₃ (fun x s₄ h₄ => ?_) fun _ _ z => z))
      exact wpAny_bind (wpAny_mono h₄ (fun _ s₅ h₅ => wpAny_pure (wpAny_pure ⟨rfl, h₅⟩)) fun _ _ z => z)
end PySem
namespace L2
open PySem PySem.Spec PyProof.Rows
theorem zw {G : Prop} (h : ∀ P : Prop, (G → P) → P) : G := h G id
def cxC (X : Cx) (sc : Scope) (C : Addr) (fp : List Addr) (pins : List (Addr × Obj)) (s : Shared) (H : Hp) : Cx where
  prog := X.prog
  w := X.w
  K := X.K
  mg := X.mg
  base := X.base
  A := X.A
  N := X.N
  s₀ := s
  H₀ := H
  env := compEnvC sc (capt X.env.cells sc.names []) C X.env
  outer := X.stack
  stack := X.stack
  ex := fp
  fn := fun x => decide (sc.names.lookup x = some NameKind.local)
  calm := X.calm
  pn := X.pn ++ pins
  xe := fun _ _ => False
structure CompSc (X : Cx) (sc : Scope) : Prop where
  kind : sc.kind = .function
  nocell : ∀ y ∈ sc.names, y.2 ≠ NameKind.cell
  names : ∀ y ∈ sc.names, y.2 = NameKind.local → sc.names.lookup y.1 = some NameKind.local
  free : ∀ y ∈ sc.names, y.2 = NameKind.free → sc.names.lookup y.1 = some NameKind.free ∧ (X.env.kindOf y.1 = some .cell ∨ X.env.kindOf y.1 = some .free)
theorem look_relabel {env : Env} : ∀ {l : List (Str × NameKind)} {x : Str},
    (l.map fun (n, k) => if (k == NameKind.free && env.scope.kind == .function && env.kindOf n == some .cell) then (n, NameKind.cell) else (n, k)).lookup x =
      (l.lookup x).map fun k => if (k == NameKind.free && env.scope.kind == .function && env.kindOf x == some .cell) then NameKind.cell else k
  | [], _ => rfl
  | (n, k) :: r, x => by
    show List.lookup x ((if (k == NameKind.free && env.scope.kind == .function && env.kindOf n == some .cell) = true then (n, NameKind.cell) else (n, k)) :: _) = _
    cases hx : x == n with
    | true =>
      have e : x = n := by simpa using hx
      subst e
      split <;> rename_i hc
      · rw [List.lookup_cons, List.lookup_cons]
        simp only [beq_self_eq_true, Option.map_some]
        rw [if_pos hc]
      · rw [List.lookup_cons, List.lookup_cons]
        simp only [beq_self_eq_true, Option.map_some]
        rw [if_neg hc]
    | false =>
      have ih := @look_relabel env r x
      split
      · rw [List.lookup_cons, hx, List.lookup_cons, hx]; exact ih
      · rw [List.lookup_cons, hx, List.lookup_cons, hx]; exact ih
section
variable {X : Cx} {sc : Scope} {C : Addr} {fp : List Addr} {pins : List (Addr × Obj)} {σ : St} {H : Hp} {s : Shared}
theorem comp_kind (x : Str) : (cxC X sc C fp pins s H).env.kindOf x = (sc.names.lookup x).map fun k => if (k == NameKind.free && X.env.scope.kind == .function && X.env.kindOf x == some .cell) then NameKind.cell else k := look_relabel
theorem comp_free {x : Str} (h : sc.names.lookup x = some NameKind.free) : (cxC X sc C fp pins s H).env.kindOf x = some .cell ∨ (cxC X sc C fp pins s H).env.kindOf x = some .free := by
  have e := comp_kind (X := X) (sc := sc) (C := C) (fp := fp) (pins := pins) (s := s) (H := H) x
  rw [h] at e
  rw [e]
  simp only [Option.map_some]
  by_cases hc : (NameKind.free == NameKind.free && X.env.scope.kind == .function && X.env.kindOf x == some .cell) = true
  · rw [if_pos hc]; exact .inl rfl
  · rw [if_neg hc]; exact .inr rfl
theorem mem_of_look {α β : Type} [BEq α] [LawfulBEq α] : ∀ {l : List (α × β)} {x : α} {k : β}, l.lookup x = some k → (x, k) ∈ l := by
  intro x_0
  induction x_0 with
  | nil =>
    intro _ _ h
    simp at h
  | cons p_0 r ih_ =>
    obtain ⟨n, k'⟩ := p_0
    intro x k h
    rw [List.lookup_cons] at h
    cases hx : x == n with
    | true =>
      rw [hx] at h
      have h : some k' = some k := h
      have e : x = n := by simpa using hx
      (injection h with h; subst h)
      subst e
      exact List.mem_cons_self
    | false => rw [hx] at h; exact List.mem_cons_of_mem _ (ih_ h)
theorem comp_vis {x : Str} (h : Vis (cxC X sc C fp pins s H).env.scope x) (S : CompSc X sc) : sc.names.lookup x = some NameKind.local ∨ sc.names.lookup x = some NameKind.free := by
  have e := comp_kind (X := X) (sc := sc) (C := C) (fp := fp) (pins := pins) (s := s) (H := H) x
  have h' : (cxC X sc C fp pins s H).env.kindOf x = some .local ∨ (cxC X sc C fp pins s H).env.kindOf x = some .cell ∨ (cxC X sc C fp pins s H).env.kindOf x = some .free := h
  rw [e] at h'
  cases q : sc.names.lookup x with
  | none => rw [q] at h'; simp at h'
  | some k =>
    rw [q] at h'
    cases k with
    | «local» => exact .inl rfl
    | free => exact .inr rfl
    | cell => exact absurd rfl (S.nocell (x, .cell) (mem_of_look q))
    | globalExplicit => simp at h'
    | globalImplicit => simp at h'
def forget (ow : List Nat) (σ : St) : St := ow.foldl (fun t i => t.set i none) σ
theorem forget_len : ∀ (ow : List Nat) (σ : St), (forget ow σ).length = σ.length := by
  intro x_0
  induction x_0 with
  | nil =>
    intro _
    exact rfl
  | cons i r ih_ =>
    intro σ
    show (forget r (σ.set i none)).length = _
    rw [ih_]
    simp
theorem forget_get : ∀ {ow : List Nat} {σ : St} {j : Nat} {v : V}, (forget ow σ)[j]? = some (some v) → σ[j]? = some (some v) ∧ j ∉ ow := by
  intro x_0
  induction x_0 with
  | nil =>
    intro _ _ _ h
    exact ⟨h, by simp⟩
  | cons i r ih_ =>
    intro σ j v h
    obtain ⟨h1, h2⟩ := ih_ h
    by_cases e : i = j
    · subst e
      rw [List.getElem?_set] at h1
      split at h1
      · split at h1 <;> simp at h1
      · exact absurd rfl ‹_›
    · rw [List.getElem?_set_ne e] at h1
      exact ⟨h1, by simp [h2, Ne.symm e]⟩
theorem inv_comp {σ' : St} {m : Str → Option Value} {h' : Heap} {tk : Nat} (I : Inv X pins σ H s) (S : CompSc X sc) (hC : s.heap.objs.size ≤ C) (hf : ∀ b ∈ fp, FpOk X pins H b) (hx : ∀ b ∈ fp, b < s.heap.objs.size)
    (k : ∀ b u, s.heap.get? b = some u → h'.get? b = some u) (hn : h'.Ns C m) (hl : σ'.length = σ.length) (hw : ∀ (i : Nat) (v : V), σ'[i]? = some (some v) → σ[i]? = some (some v))
    (ho : ∀ (i : Nat) (x : Str) (v : V), X.N[i]? = some x → sc.names.lookup x = some NameKind.local → σ'[i]? ≠ some (some v)) :
    Inv (cxC X sc C fp pins s H) [] σ' H { s with heap := h', toks := tk } := by
  have cl : ∀ {x : Str} {c : Addr}, (cxC X sc C fp pins s H).env.cells.lookup x = some c → X.env.cells.lookup x = some c ∧ sc.names.lookup x = some NameKind.free := fun {x c} e => by
    have e : (capt X.env.cells sc.names []).lookup x = some c := e
    rcases capt_look e with z | ⟨z1, z2⟩
    · simp at z
    · exact ⟨z1, (S.free _ z2 rfl).1⟩
  have cold : ∀ {x : Str} {c : Addr}, X.env.cells.lookup x = some c → c < s.heap.objs.size := fun {x c} e => let ⟨_, q⟩ := I.cell x c e; q.lt
  refine ⟨⟨I.ok.mod, S.kind, I.ok.glob, I.ok.blt, hC, fun x y c e1 e2 => I.ok.inj x y c (cl e1).1 (cl e2).1, fun x hx => ?_, fun x c hx e => ?_, I.ok.hd, I.ok.frames, .inl rfl, fun b hb => ?_, I.bs, Nat.le_trans I.ok.bsz I.sz, fun b o e hb => ?_, fun b hb z => ?_, I.stack, I.stkFree⟩,
    rfl, I.bare, Un.kept k, ⟨m, hn, fun i x v e1 e2 e3 => ?_⟩, fun x c e => ?_, ?_, fun x c e => I.freeC x c (cl e).1, fun p hp => ?_, I.hok.kept k, hl.trans I.len⟩
  · have hx' : sc.names.lookup x = some NameKind.free := by
      have e := comp_kind (X := X) (sc := sc) (C := C) (fp := fp) (pins := pins) (s := s) (H := H) x
      rw [e] at hx
      cases q : sc.names.lookup x with
      | none => rw [q] at hx; simp at hx
      | some k =>
        rw [q] at hx
        cases k with
        | free => rfl
        | «local» => simp at hx
        | cell => exact absurd rfl (S.nocell (x, .cell) (mem_of_look q))
        | globalExplicit => simp at hx
        | globalImplicit => simp at hx
    obtain ⟨c, hc⟩ := I.ok.has x (S.free _ (mem_of_look hx') rfl).2
    exact Option.isSome_iff_exists.mp (capt_has (acc := []) (mem_of_look hx') hc)
  · have hx' : sc.names.lookup x = some NameKind.local := of_decide_eq_true hx
    rw [(cl e).2] at hx'
    (injection hx' with hx'; injection hx')
  · obtain ⟨f0, f1, f2, f3, f4, f5⟩ := hf b hb
    exact ⟨Nat.ne_of_lt (Nat.lt_of_lt_of_le (hx b hb) hC), fun x c e => f4 x c (cl e).1⟩
  · obtain ⟨f0, f1, f2, f3, f4, f5⟩ := hf b hb
    rcases f3 with z | z
    · exact I.ok.noex b o e z
    · exact absurd (Nat.lt_of_lt_of_le (Heap.lt_size e) (Nat.le_trans I.ok.bsz z)) (Nat.lt_irrefl _)
  · obtain ⟨f0, f1, f2, f3, f4, f5⟩ := hf b hb
    rcases List.mem_cons.mp (I.stkSub b z) with e | e
    · exact f1 e
    · exact f2 e
  · rcases comp_vis e3 S with z | z
    · exact absurd e2 (ho i x v e1 z)
    · obtain ⟨m0, hn0, hl0⟩ := I.loc
      have zo := (S.free _ (mem_of_look z) rfl).2
      have vis : Vis X.env.scope x := by rcases zo with q | q; exact .inr (.inl q); exact .inr (.inr q)
      obtain ⟨u, r, l⟩ := hl0 i x v e1 (hw i v e2) vis
      refine ⟨u, r, .inr ⟨comp_free z, ?_⟩⟩
      rcases l with ⟨q, _⟩ | ⟨_, c, hc, ⟨oc, hoc, hd⟩⟩
      · rcases zo with q' | q' <;> rw [q] at q' <;> (injection q' with q'; injection q')
      · obtain ⟨c', hc'⟩ := Option.isSome_iff_exists.mp (capt_has (acc := []) (mem_of_look z) hc)
        have e := (cl hc').1
        rw [hc] at e
        (injection e with e; subst e)
        exact ⟨c, hc', ⟨oc, k _ _ hoc, hd⟩⟩
  · obtain ⟨v, oc, hoc, hd⟩ := I.cell x c (cl e).1
    exact ⟨v, oc, k _ _ hoc, hd⟩
  · exact I.hok.fresh hC
  · have hp' : p ∈ X.pn ++ pins := by simpa [cxC] using hp
    obtain ⟨e, n, ne, nf, d⟩ := I.pin p hp'
    refine ⟨k _ _ e, n, ?_, fun z => ?_, d⟩
    · show p.1 ≠ C
      exact Nat.ne_of_lt (Nat.lt_of_lt_of_le (Heap.lt_size e) hC)
    · rcases List.mem_cons.mp (I.stkSub p.1 z) with q | q
      · exact ne q
      · exact nf q
def InC (X : Cx) (sc : Scope) (X' : Cx) : Prop := ∃ C fp pins s H, X' = cxC X sc C fp pins s H
def tComp (wi : TI) (g : TG) (tc : TT) (te : TE) (ow : List Nat) : TE := fun σ H Q => wi σ H fun J H1 => ∀ a, H1 a = none →
  ∃ W : Nat → Nat → List V → St → Hp → Prop, (∃ m, W 0 m [] (forget ow σ) (upd H1 a (.lst []))) ∧ ∀ i m ys σ2 H2, W i m ys σ2 H2 →
    H2 a = some (.lst ys) ∧ ((J.stop i H2 ∧ Q (.ref a) H2) ∨ (J.go i H2 ∧ ∀ x H3, J.yld i H2 x H3 → g x σ2 H3 fun σ4 H4 => tc σ4 H4 fun b H5 =>
      if b = true then te σ4 H5 fun y H6 => H6 a = some (.lst ys) ∧ ys.length < sizeLine ∧ ∃ m', m' < m ∧ W (i + 1) m' (ys ++ [y]) σ4 (upd H6 a (.lst (ys ++ [y])))
      else ∃ m', m' < m ∧ W (i + 1) m' ys σ4 H5))
def tAll : TT := fun _ H Q => Q true H
def PIfs (X : Cx) (sc : Scope) (ifs : List Expr) (tc : TT) : Prop := (ifs = [] ∧ tc = tAll) ∨ ∃ c, ifs = [c] ∧ ∀ X', InC X sc X' → PT X' c tc
inductive CI (X : Cx) (tn : Nat → Heap → Prop) (fp : List Addr) (W : Nat → Nat → List V → St → Hp → Prop) (n : Nat) (s : Shared) : Prop
  | mk (i : Nat) (ys : List V) (σ : St) (H : Hp) (I : Inv X [] σ H s) (st : tn i s.heap) (fr : ∀ b ∈ fp, H b = none) (w : W i n ys σ H)
theorem comp_block {tg iter elt : Expr} {ifs : List Expr} {pos : Pos} {g : TG} {tc : TT} {te : TE} {ow : List Nat} {it : Addr} {tn : Nat → Heap → Prop} {J : It} (I : Inv X pins σ H s) (hc : X.calm = true) (S : CompSc X sc)
    (how : ∀ (i : Nat) (x : Str), X.N[i]? = some x → sc.names.lookup x = some NameKind.local → i ∈ ow) (hg : ∀ X', InC X sc X' → PG X' tg g) (ht : PIfs X sc ifs tc) (he : ∀ X', InC X sc X' → PE X' elt te)
    (T : Turn X.prog X.w X.K tg J fp it tn) (st : tn 0 s.heap) (hf : ∀ b ∈ fp, FpOk X pins H b) (R : V → Hp → Prop)
    (hW : ∀ a, H a = none → ∃ W : Nat → Nat → List V → St → Hp → Prop, (∃ m, W 0 m [] (forget ow σ) (upd H a (.lst []))) ∧ ∀ i m ys σ2 H2, W i m ys σ2 H2 →
      H2 a = some (.lst ys) ∧ ((J.stop i H2 ∧ R (.ref a) H2) ∨ (J.go i H2 ∧ ∀ x H3, J.yld i H2 x H3 → g x σ2 H3 fun σ4 H4 => tc σ4 H4 fun b H5 =>
        if b = true then te σ4 H5 fun y H6 => H6 a = some (.lst ys) ∧ ys.length < sizeLine ∧ ∃ m', m' < m ∧ W (i + 1) m' (ys ++ [y]) σ4 (upd H6 a (.lst (ys ++ [y])))
        else ∃ m', m' < m ∧ W (i + 1) m' ys σ4 H5)))
    {RR : Value → Addr → Result → Shared → Prop}
    (hRR : ∀ a C s' H' m, s.heap.objs.size ≤ C → Inv X pins σ H' s' → s'.heap.Ns C m → H' C = none → C ≠ X.env.locals → (∀ x c, X.env.cells.lookup x = some c → c ≠ C) → (∀ p ∈ X.pn ++ pins, p.1 ≠ C) → R (.ref a) H' → RR (.ref a) C (.ok .next) s')
    (E : Value → Shared → Prop) :
    wpAny (model X.prog X.w) X.A (newList []) (fun acc s₃ => wpAny (model X.prog X.w) X.A (newFunctionEnv sc X.env.globals (capt X.env.cells sc.names []) [] X.env.qual none .none (some X.env)) (fun cenv s₄ =>
      codeAny (model X.prog X.w) X.A (.compStart (.ListComp elt [⟨tg, iter, ifs, 0⟩] sc pos) 0 (.ref it) acc { cenv with scope := relabel sc X.env }) (RR acc cenv.locals) s₄) E s₃) E s := by
  refine wpAny_newObj_type (wpAny_newFunctionEnv S.nocell (by intro y hy; simp at hy) (fun h₁ hns₁ hsb₁ => ?_) S.kind)
  dsimp only at hns₁ hsb₁ ⊢
  have hna : H s.heap.objs.size = none := I.hok.fresh (Nat.le_refl _)
  have I1 : Inv X pins σ (upd H s.heap.objs.size (.lst [])) { s with heap := s.heap.push { cls := .type "list", dict := none, data := .seq ([] : List Value).toArray } } :=
    I.laid (t' := s.toks) (fun b u e => Heap.get?_push_of_some _ e) (Nat.le_refl _) ⟨Nat.zero_le _, [], 0, .nil, Heap.get?_push_size _ rfl⟩
  generalize hH2 : s.heap.push { cls := .type "list", dict := none, data := .seq ([] : List Value).toArray } = h2 at hns₁ hsb₁ I1 ⊢
  have hC : h2.objs.size = s.heap.objs.size + 1 := by rw [← hH2, Heap.size_push]
  have old : ∀ b o, h2.get? b = some o → h₁.get? b = some o := fun b o e => hsb₁.extBut b o (Nat.ne_of_lt (Heap.lt_size e)) (Heap.get?_push_of_some _ e)
  have fpl : ∀ b ∈ fp, b < s.heap.objs.size := fun b hb => let ⟨o, e, _⟩ := T.obj 0 _ st b hb; Heap.lt_size e
  have ups : ∀ b, b < s.heap.objs.size → upd H s.heap.objs.size (.lst []) b = H b := fun b hb => upd_ne (Nat.ne_of_lt hb)
  have hf1 : ∀ b ∈ fp, FpOk X pins (upd H s.heap.objs.size (.lst [])) b := fun b hb => by
    obtain ⟨f0, f⟩ := hf b hb
    exact ⟨by rw [ups b (fpl b hb)]; exact f0, f⟩
  have Ib : Inv (cxC X sc h2.objs.size fp pins { s with heap := h2 } (upd H s.heap.objs.size (.lst []))) [] (forget ow σ) (upd H s.heap.objs.size (.lst [])) { s with heap := h₁, toks := s.toks + ([] : List (Str × Value)).length } :=
    inv_comp (s := { s with heap := h2 }) I1 S (Nat.le_refl _) hf1 (fun b hb => Nat.lt_of_lt_of_le (fpl b hb) (by show _ ≤ h2.objs.size; (clear I hc S how hg ht he T st hf hW hRR hna hH2 hns₁ hsb₁ I1 old fpl ups hf1 hb; omega))) old hns₁ (forget_len _ _) (fun i v e => (forget_get e).1) fun i x v e1 e2 e3 => (forget_get e3).2 (how i x e1 e2)
  have inC : InC X sc (cxC X sc h2.objs.size fp pins { s with heap := h2 } (upd H s.heap.objs.size (.lst []))) := ⟨_, _, _, _, _, rfl⟩
  let X' : Cx := cxC X sc h2.objs.size fp pins { s with heap := h2 } (upd H s.heap.objs.size (.lst []))
  have Ib : Inv X' [] (forget ow σ) (upd H s.heap.objs.size (.lst [])) { s with heap := h₁, toks := s.toks + ([] : List (Str × Value)).length } := Ib
  have st1 : tn 0 h₁ := T.keep 0 _ _ st fun b hb o e => old b o (hH2 ▸ Heap.get?_push_of_some _ e)
  have fpX : ∀ {H' : Hp}, (∀ b ∈ fp, H' b = none) → ∀ b ∈ fp, FpOk X' [] H' b := fun {H'} hn b hb => by
    obtain ⟨f0, f1, f2, f3, f4, f5⟩ := hf b hb
    obtain ⟨g1, g2⟩ := Ib.ok.exf b hb
    refine ⟨hn b hb, g1, fun z => Ib.ok.exfs b hb z, .inl hb, g2, fun p hp => ?_⟩
    refine f5 p ?_
    have hp : p ∈ (X.pn ++ pins) ++ [] := hp
    simpa using hp
  have back : ∀ {σ3 : St} {H3 : Hp} {s4 : Shared}, Inv X' [] σ3 H3 s4 → Inv X pins σ H3 s4 := fun {σ3 H3 s4} I4 => by
    refine Inv.call' (ch := fp) I1 I4.os I4.base I4.hok I4.bare fun b hb => ?_
    obtain ⟨f0, f1, f2, f3, f4, f5⟩ := hf b hb
    exact ⟨f3, f1, f4, f5⟩
  have fin : ∀ {σ3 : St} {H3 : Hp} {s4 : Shared}, Inv X' [] σ3 H3 s4 → R (.ref s.heap.objs.size) H3 → RR (.ref s.heap.objs.size) h2.objs.size (.ok .next) s4 := fun {σ3 H3 s4} I4 q => by
    obtain ⟨m4, n4, _⟩ := I4.loc
    have n4' : s4.heap.Ns h2.objs.size m4 := n4
    have fC : H3 h2.objs.size = none := I4.free
    refine hRR _ _ s4 H3 m4 (by rw [hC]; exact Nat.le_succ _) (back I4) n4' fC ?_ (fun x c e => ?_) (fun p hp => ?_) q
    · rw [hC]; exact Nat.ne_of_gt (Nat.lt_succ_of_lt I.lt)
    · obtain ⟨v, qc⟩ := I.cell x c e
      rw [hC]; exact Nat.ne_of_lt (Nat.lt_succ_of_lt qc.lt)
    · rw [hC]; exact Nat.ne_of_lt (Nat.lt_succ_of_lt (Heap.lt_size (I.pin p hp).1))
  have loop : codeAny (model X.prog X.w) X.A (.compLoop (.ListComp elt [⟨tg, iter, ifs, 0⟩] sc pos) 0 (.ref it) (.ref s.heap.objs.size) (compEnvC sc (capt X.env.cells sc.names []) h2.objs.size X.env)) (RR (.ref s.heap.objs.size) h2.objs.size)
      { s with heap := h₁, toks := s.toks + ([] : List (Str × Value)).length } := by
    obtain ⟨W, ⟨m0, w0⟩, hW⟩ := hW _ hna
    refine compLoop_any (CI X' tn fp W) _ rfl ?_ m0 ⟨0, [], _, _, Ib, st1, fun b hb => (hf1 b hb).1, w0⟩
    intro n s3 h3
    obtain ⟨i, ys, σ3, H3, I3, st3, fr3, w3⟩ := h3
    obtain ⟨ha, hstep⟩ := hW i n ys σ3 H3 w3
    rcases hstep with ⟨stop, q⟩ | ⟨go, step⟩
    · refine thn (T.done X' rfl rfl rfl hc i [] s3 σ3 H3 _ I3 (fpX fr3) st3 stop) fun r s4 ⟨hr, I4⟩ => ?_
      subst hr
      exact fin I4 q
    · refine thn (T.item X' rfl rfl rfl hc i [] s3 σ3 H3 _ I3 (fpX fr3) st3 go) fun r s4 ⟨u, hr, h4⟩ => ?_
      subst hr
      refine thn h4 fun _ s5 ⟨x, H5, I5, r5, y5, st5, fr5⟩ => ?_
      have I5' := I5.pinned (fpX fr5) (T.obj _ _ st5)
      refine wpAny_mono (hg X' inC _ s5 σ3 H5 x u _ I5' r5 (step x H5 y5)) (fun _ s6 ⟨σ6, H6, I6, q6⟩ => ?_) (fun _ _ z => (show False from z).elim)
      have again : ∀ {σ7 : St} {H7 : Hp} {s7 : Shared} {zs : List V}, Inv X' ([] ++ pinsAt fp s5.heap) σ7 H7 s7 → (∃ m', m' < n ∧ W (i + 1) m' zs σ7 H7) →
          ∃ m, m < n ∧ CI X' tn fp W m s7 := fun {σ7 H7 s7 zs} I7 ⟨m', hm, w7⟩ => by
        refine ⟨m', hm, i + 1, zs, σ7, H7, I7.unpinned, T.keep _ _ _ st5 fun b hb o e => (I7.pin (b, o) (List.mem_append_right _ (List.mem_append_right _ (mem_pinsAt hb e)))).1, fun b hb => ?_, w7⟩
        obtain ⟨o, e, d⟩ := T.obj _ _ st5 b hb
        exact (I7.pin (b, o) (List.mem_append_right _ (List.mem_append_right _ (mem_pinsAt hb e)))).2.1
      have tests : wpAny (model X'.prog X'.w) X'.A (forIn ifs true fun c r => if r = true then do let ok ← isTrue c X'.env (eval c X'.env); pure (ForInStep.yield ok) else pure (ForInStep.yield r))
          (fun b s7 => ∃ H7, Inv X' ([] ++ pinsAt fp s5.heap) σ6 H7 s7 ∧ if b = true then te σ6 H7 fun y H8 => H8 s.heap.objs.size = some (.lst ys) ∧ ys.length < sizeLine ∧ ∃ m', m' < n ∧ W (i + 1) m' (ys ++ [y]) σ6 (upd H8 s.heap.objs.size (.lst (ys ++ [y])))
            else ∃ m', m' < n ∧ W (i + 1) m' ys σ6 H7) X'.xe s6 := by
        rcases ht with ⟨e1, e2⟩ | ⟨c, e1, hcc⟩
        · subst e1
          rw [e2] at q6
          exact wpAny_pure ⟨H6, I6, q6⟩
        · subst e1
          exact wpAny_tests_one (thn (hcc X' inC _ s6 σ6 H6 _ I6 q6) fun b s7 hh_ => (by obtain ⟨H7, I7, q7⟩ := hh_; exact (⟨H7, I7, q7⟩)))
      refine wpAny_mono tests (fun b s7 ⟨H7, I7, q7⟩ => ?_) (fun _ _ z => (show False from z).elim)
      cases b with
      | false =>
        rw [if_neg Bool.false_ne_true] at q7 ⊢
        exact again I7 q7
      | true =>
        rw [if_pos rfl] at q7 ⊢
        refine wpAny_mono (he X' inC _ s7 σ6 H7 _ I7 q7) (fun y s8 ⟨yv, H8, I8, r8, ha8, hz8, q8⟩ => ?_) (fun _ _ z => (show False from z).elim)
        refine wpAny_mono (mt_append (X := X') _ s8 σ6 H8 (.ref s.heap.objs.size) [yv] (.ref s.heap.objs.size) [y] (fun v H9 => H9 = upd H8 s.heap.objs.size (.lst (ys ++ [yv]))) I8 rfl (.cons r8 .nil) ⟨_, ys, yv, rfl, rfl, ha8, hz8, rfl⟩) (fun _ s9 ⟨v9, H9, I9, r9, q9⟩ => ?_) (fun _ _ z => (show False from z).elim)
        subst q9
        exact again I9 q8
  exact codeAny_compStart_list loop (T.self _ 0 _ _ _ st1 loop)
theorem comp_clos (I : Inv X pins σ H s) (S : CompSc X sc) : closureFor sc X.env = pure (capt X.env.cells sc.names []) := closure_capt fun y hy hk => by
  obtain ⟨n, kd⟩ := y
  have hk : kd = NameKind.free := hk
  exact I.ok.has n (S.free _ hy hk).2
theorem pe_comp {tg iter elt : Expr} {ifs : List Expr} {pos : Pos} {wi : TI} {g : TG} {tc : TT} {te : TE} (ow : List Nat) (hc : X.calm = true) (S : CompSc X sc)
    (how : ∀ (i : Nat) (x : Str), X.N[i]? = some x → sc.names.lookup x = some NameKind.local → i ∈ ow) (hi : PI X tg iter wi) (hg : ∀ X', InC X sc X' → PG X' tg g) (ht : PIfs X sc ifs tc) (he : ∀ X', InC X sc X' → PE X' elt te)
    (hs : ∀ x, foldedSetIterable iter X.env x = pure x := by intro _; rfl) : PE X (.ListComp elt [⟨tg, iter, ifs, 0⟩] sc pos) (tComp wi g tc te ow) := by
  intro pins s σ H Q I h
  rw [eval_ListComp]
  refine wpAny_comprehension_free (use := none) rfl hs (comp_clos I S) S.kind S.names (thn (hi pins s σ H _ I h) fun v s1 h1 => thn h1 fun itv s2 h2 => ?_)
  obtain ⟨it, fp, tn, J, H2, e, I2, T, st2, f2, hW⟩ := h2
  subst e
  refine comp_block (RR := fun acc C => compPost (model X.prog X.w) X.A X.xe none (EP X pins σ Q) acc C) I2 hc S how hg ht he T st2 f2 Q hW ?_ X.xe
  intro a C s' H' m hC I' hn fC n1 n2 n3 q
  refine ⟨m, hn, fun h' sb => ⟨.ref a, H', ?_, rfl, q⟩⟩
  exact I'.turned (t' := s'.toks) (fun b o hb e => (sb.2 b hb).trans e) fC n1 (.inr (Nat.le_trans I2.sz hC)) n2 n3
theorem ps_comp {tg iter elt : Expr} {ifs : List Expr} {pos spos py : Pos} {wi : TI} {g : TG} {tc : TT} {te : TE} {j : Nat} {y : Str} (ow : List Nat) (hc : X.calm = true) (hN : X.N.Nodup) (hj : X.N[j]? = some y) (hy : Loc X.env.scope y) (S : CompSc X sc)
    (how : ∀ (i : Nat) (x : Str), X.N[i]? = some x → sc.names.lookup x = some NameKind.local → i ∈ ow) (hi : PI X tg iter wi) (hg : ∀ X', InC X sc X' → PG X' tg g) (ht : PIfs X sc ifs tc) (he : ∀ X', InC X sc X' → PE X' elt te)
    (hsw : swapsWith (.ListComp elt [⟨tg, iter, ifs, 0⟩] sc pos) (some (.Name y py)) spos.line X.env = pure true)
    (hf : X.fn y = true ∨ X.env.scope.names.lookup y = some .local) (hs : ∀ x, foldedSetIterable iter X.env x = pure x := by intro _; rfl) :
    PS X (.Assign [.Name y py] (.ListComp elt [⟨tg, iter, ifs, 0⟩] sc pos) spos) (tAsg (tComp wi g tc te ow) (gName j)) := by
  intro pins s σ H D I h
  rw [exec_Assign_Name_used _ _ _ _ hsw]
  refine wpAny_bind (wpAny_standAt (wpAny_bind ?_))
  show wpAny _ _ (do let _ ← comprehension (.ListComp elt [⟨tg, iter, ifs, 0⟩] sc pos) sc X.env _ (newList []) false (eval iter X.env) (some (assign (.Name y py) X.env))) _ _ s
  refine wpAny_bind (wpAny_mono (wpAny_comprehension_free (use := some (assign (.Name y py) X.env)) (Q := fun _ s' => SP X pins D .next s') rfl hs (comp_clos I S) S.kind S.names
    (thn (hi pins s σ H _ I h) fun v s1 h1 => thn h1 fun itv s2 h2 => ?_)) (fun _ s' hq => wpAny_pure (wpAny_pure hq)) fun _ _ e => e)
  obtain ⟨it, fp, tn, J, H2, e, I2, T, st2, f2, hW⟩ := h2
  subst e
  refine comp_block (RR := fun acc C => compPost (model X.prog X.w) X.A X.xe (some (assign (.Name y py) X.env)) (fun _ s' => SP X pins D .next s') acc C) I2 hc S how hg ht he T st2 f2 (fun x H1 => gName j x σ H1 D.nx) hW ?_ X.xe
  intro a C s' H' m hC I' hn fC n1 n2 n3 q
  show wpAny _ _ (assign (.Name y py) X.env (.ref a)) _ _ _
  refine wpAny_assign_Name (store_ok2 I' hN hj hy (show RelV (.ref a) (.ref a) from rfl) (fun s3 I3 sb => ?_) hf)
  obtain ⟨z, sb, hz⟩ := sb
  have nz : C ≠ z := by
    rcases hz with e | e
    · rw [e]; exact n1
    · exact Ne.symm (n2 _ _ e)
  refine ⟨m, hn.sameBut sb nz, fun h' sb' => ⟨_, H', ?_, q⟩⟩
  exact I3.turned (t' := s3.toks) (fun b o hb e => (sb'.2 b hb).trans e) fC n1 (.inr (Nat.le_trans I2.sz hC)) n2 n3
end
end L2
namespace Vi
open PySem (Str)
abbrev Key := Sum Int Str
inductive D where
  | non
  | bl (b : Bool)
  | int (i : Int)
  | str (x : Str)
  | tup (l : List D)
  | lst (l : List D)
  | dK (l : List (Key × D))
  | dT (l : List (List Key × D))
  | obj (c : Nat) (fs : List (Str × D))
set_option genInjectivity true in
inductive R (α : Type) where
  | ok (a : α)
  | ex (x : D)
  | bad
def R.bind {α β : Type} : R α → (α → R β) → R β
  | .ok a, f => f a
  | .ex x, _ => .ex x
  | .bad, _ => .bad
instance : Monad R where
  pure := R.ok
  bind := R.bind
@[simp] theorem R.ok_bind {α β : Type} (a : α) (f : α → R β) : (R.ok a >>= f) = f a := rfl
@[simp] theorem R.ex_bind {α β : Type} (x : D) (f : α → R β) : (R.ex x >>= f) = R.ex x := rfl
@[simp] theorem R.bad_bind {α β : Type} (f : α → R β) : ((R.bad : R α) >>= f) = R.bad := rfl
@[simp] theorem R.pure_eq {α : Type} (a : α) : (pure a : R α) = R.ok a := rfl
theorem okp {α β : Type} {a c : α} {b d : β} (h : R.ok (a, b) = R.ok (c, d)) : a = c ∧ b = d := by
  injection h with h
  exact Prod.mk.inj h
inductive BOk {α β : Type} (x : R α) (f : α → R β) (b : β) : Prop
  | mk (a : α) (h1 : x = .ok a) (h2 : f a = .ok b)
theorem R.bind_ok {α β : Type} {x : R α} {f : α → R β} {b : β} (h : (x >>= f) = R.ok b) : BOk x f b := by
  cases x with
  | ok a => exact ⟨a, rfl, h⟩
  | ex _ => injection h
  | bad => injection h
mutual
def D.imm : D → Bool
  | .non => true
  | .bl _ => true
  | .int _ => true
  | .str _ => true
  | .tup l => immL l
  | .lst _ => false
  | .dK _ => false
  | .dT _ => false
  | .obj _ _ => false
def immL : List D → Bool
  | [] => true
  | d :: r => d.imm && immL r
end
theorem immL_all : ∀ {l : List D}, immL l = true ↔ ∀ d ∈ l, d.imm = true := by
  intro x_0
  induction x_0 with
  | nil =>
    simp [immL]
  | cons d r ih_ =>
    simp [immL, ih_]
def D.flat : D → Bool
  | .lst l => immL l
  | .dK l => immL (l.map (·.2))
  | .dT l => immL (l.map (·.2))
  | d => d.imm
inductive Kd where
  | sto (is : List Nat)
  | old
  | bor
def kdOf (d : D) : Kd := if d.flat = true then .sto [] else .bor
def keyOf : D → Option Key
  | .int i => some (.inl i)
  | .str x => some (.inr x)
  | _ => none
def keysOf : List D → Option (List Key)
  | [] => some []
  | d :: r => match keyOf d, keysOf r with
    | some k, some ks => some (k :: ks)
    | _, _ => none
def keyD : Key → D
  | .inl i => .int i
  | .inr x => .str x
def valD {κ : Type} [DecidableEq κ] (l : List (κ × D)) (k : κ) : Option D := (l.find? fun kv => decide (kv.1 = k)).map (·.2)
def putD {κ : Type} [DecidableEq κ] (l : List (κ × D)) (k : κ) (v : D) : List (κ × D) :=
  if (l.any fun kv => decide (kv.1 = k)) = true then l.map (fun kv => if kv.1 = k then (kv.1, v) else kv) else l ++ [(k, v)]
def dgetD : D → D → Option (Option D)
  | .dK l, k => match keyOf k with | some k => some (valD l k) | none => none
  | .dT l, .tup ks => match keysOf ks with | some k => some (valD l k) | none => none
  | _, _ => none
def dputD : D → D → D → Option D
  | .dK l, k, v => match keyOf k with | some k => if l.length < 1000000 then some (.dK (putD l k v)) else none | none => none
  | .dT l, .tup ks, v => match keysOf ks with | some k => if l.length < 1000000 then some (.dT (putD l k v)) else none | none => none
  | _, _, _ => none
def eqLs (f : D → D → Option Bool) : List D → List D → Option Bool
  | [], [] => some true
  | a :: r, b :: t => match f a b, eqLs f r t with
    | some x, some y => some (x && y)
    | _, _ => none
  | [], _ :: _ => some false
  | _ :: _, [] => some false
def eqN : Nat → D → D → Option Bool
  | 0, _, _ => none
  | _ + 1, .non, .non => some true
  | _ + 1, .bl a, .bl b => some (a == b)
  | _ + 1, .int a, .int b => some (a == b)
  | _ + 1, .str a, .str b => some (a == b)
  | n + 1, .tup a, .tup b => eqLs (eqN n) a b
  | n + 1, .lst a, .lst b => eqLs (eqN n) a b
  | _ + 1, .non, .int _ => some false
  | _ + 1, .int _, .non => some false
  | _ + 1, .non, .tup _ => some false
  | _ + 1, .tup _, .non => some false
  | _ + 1, .non, .str _ => some false
  | _ + 1, .str _, .non => some false
  | _ + 1, .non, .bl _ => some false
  | _ + 1, .bl _, .non => some false
  | _ + 1, .int _, .str _ => some false
  | _ + 1, .str _, .int _ => some false
  | _ + 1, _, _ => none
theorem eqN_1 (n : Nat)  : eqN (n + 1) .non .non = some true := rfl
theorem eqN_2 (n : Nat) (a : Bool) (b : Bool) : eqN (n + 1) (.bl a) (.bl b) = some (a == b) := rfl
theorem eqN_3 (n : Nat) (a : Int) (b : Int) : eqN (n + 1) (.int a) (.int b) = some (a == b) := rfl
theorem eqN_4 (n : Nat) (a : Str) (b : Str) : eqN (n + 1) (.str a) (.str b) = some (a == b) := rfl
theorem eqN_5 (n : Nat) (a : List D) (b : List D) : eqN (n + 1) (.tup a) (.tup b) = eqLs (eqN n) a b := rfl
theorem eqN_6 (n : Nat) (a : List D) (b : List D) : eqN (n + 1) (.lst a) (.lst b) = eqLs (eqN n) a b := rfl
theorem eqN_7 (n : Nat) (u1 : Int) : eqN (n + 1) .non (.int u1) = some false := rfl
theorem eqN_8 (n : Nat) (u1 : Int) : eqN (n + 1) (.int u1) .non = some false := rfl
theorem eqN_9 (n : Nat) (u1 : List D) : eqN (n + 1) .non (.tup u1) = some false := rfl
theorem eqN_10 (n : Nat) (u1 : List D) : eqN (n + 1) (.tup u1) .non = some false := rfl
theorem eqN_11 (n : Nat) (u1 : Str) : eqN (n + 1) .non (.str u1) = some false := rfl
theorem eqN_12 (n : Nat) (u1 : Str) : eqN (n + 1) (.str u1) .non = some false := rfl
theorem eqN_13 (n : Nat) (u1 : Bool) : eqN (n + 1) .non (.bl u1) = some false := rfl
theorem eqN_14 (n : Nat) (u1 : Bool) : eqN (n + 1) (.bl u1) .non = some false := rfl
theorem eqN_15 (n : Nat) (u1 : Int) (u2 : Str) : eqN (n + 1) (.int u1) (.str u2) = some false := rfl
theorem eqN_16 (n : Nat) (u1 : Str) (u2 : Int) : eqN (n + 1) (.str u1) (.int u2) = some false := rfl
def eqD (a b : D) : Option Bool := eqN 8 a b
inductive Op where
  | add | sub | mul | fdiv | mod | pow
inductive Cp where
  | eq | ne | lt | le | gt | ge | isN | notN | mem | nmem
def i2 {α : Type} (f : Int → Int → R α) : D → D → R α
  | .int a, .int b => f a b
  | _, _ => .bad
def addD : D → D → R D
  | .int a, .int b => .ok (.int (a + b))
  | .lst a, .lst b => if a.length + b.length ≤ 1000000 then .ok (.lst (a ++ b)) else .bad
  | _, _ => .bad
def mulD : D → D → R D
  | .int a, .int b => if (-(2 ^ 64) < a ∧ a < 2 ^ 64) ∨ (-(2 ^ 64) < b ∧ b < 2 ^ 64) then .ok (.int (a * b)) else .bad
  | .lst l, .int n => if immL l = true ∧ 0 ≤ n ∧ n ≤ 1000000 ∧ l.length * n.toNat ≤ 1000000 then .ok (.lst (List.replicate n.toNat l).flatten) else .bad
  | _, _ => .bad
def opD : Op → D → D → R D
  | .add => addD
  | .sub => i2 fun a b => .ok (.int (a - b))
  | .mul => mulD
  | .fdiv => i2 fun a b => if 0 < b ∧ b < 1073741824 then .ok (.int (a / b)) else .bad
  | .mod => i2 fun a b => if 0 < b then .ok (.int (a % b)) else .bad
  | .pow => i2 fun a b => if 0 ≤ b ∧ b ≤ 1000000 ∧ a.natAbs < 2 ^ 64 then .ok (.int (a ^ b.toNat)) else .bad
theorem opD_1 (a b : Int) : opD .add (.int a) (.int b) = (.ok (.int (a + b))) := rfl
theorem opD_2 (a b : Int) : opD .sub (.int a) (.int b) = (.ok (.int (a - b))) := rfl
theorem opD_8 (l : List D) (n : Int) : opD .mul (.lst l) (.int n) = (if immL l = true ∧ 0 ≤ n ∧ n ≤ 1000000 ∧ l.length * n.toNat ≤ 1000000 then .ok (.lst (List.replicate n.toNat l).flatten) else .bad) := rfl
theorem opD_4 (a b : Int) : opD .fdiv (.int a) (.int b) = (if 0 < b ∧ b < 1073741824 then .ok (.int (a / b)) else .bad) := rfl
theorem opD_5 (a b : Int) : opD .mod (.int a) (.int b) = (if 0 < b then .ok (.int (a % b)) else .bad) := rfl
theorem opD_6 (a b : Int) : opD .pow (.int a) (.int b) = (if 0 ≤ b ∧ b ≤ 1000000 ∧ a.natAbs < 2 ^ 64 then .ok (.int (a ^ b.toNat)) else .bad) := rfl
theorem opD_7 (a b : List D) : opD .add (.lst a) (.lst b) = (if a.length + b.length ≤ 1000000 then .ok (.lst (a ++ b)) else .bad) := rfl
inductive Bi where
  | len | sorted | sum | any | all | list | tuple | dict | isInt | isBool | isTuple | isList | items | sortT | sortI | listK
inductive Itk where
  | each | range | enum | keys | zip
inductive E where
  | nil
  | var (i : Nat)
  | int (i : Int)
  | bl (b : Bool)
  | non
  | str (x : Str)
  | glb (d : D)
  | bin (o : Op) (a b : E)
  | neg (a : E)
  | cmp (o : Cp) (a b : E)
  | not (a : E)
  | and (a b : E)
  | or (a b : E)
  | ife (c a b : E)
  | call (f : Nat) (as : List E)
  | make (f : Nat) (as : List E)
  | meth (f : Nat) (m : Str) (o : E) (as : List E)
  | bi (b : Bi) (as : List E)
  | get1 (o k : E)
  | get2 (o k x : E)
  | fld (o : E) (x : Str)
  | ix (a i : E)
  | dix (a i : E)
  | sl (a lo hi : E)
  | rev (a : E)
  | sl2 (a lo hi : E)
  | isB (a : E) (b : Bool)
  | tup (as : List E)
  | lst (as : List E)
  | dnew (t : Bool)
  | comp (e : E) (tg : List Nat) (one : Bool) (k : Itk) (it : List E) (c : E)
inductive S where
  | set (i : Nat) (e : E)
  | unp (is : List Nat) (e : E)
  | ret (e : E)
  | ifs (c : E) (a b : List S)
  | for (tg : List Nat) (one : Bool) (k : Itk) (it : List E) (b : List S)
  | whl (n : Nat) (c : E) (b : List S)
  | app (i : Nat) (e : E)
  | rvs (i : Nat)
  | clr (i : Nat)
  | pop (i j : Nat)
  | ext (i : Nat) (e : E)
  | eachRvs (t i : Nat)
  | eachClr (t i : Nat)
  | appIx (i j : Nat) (e : E)
  | rvsL (i : Nat)
  | clrIx (i j k : Nat)
  | chg (i : Nat) (e : E)
  | put (i : Nat) (k v : E)
  | setIx (i : Nat) (k v : E)
  | fset (x : Str) (e : E)
  | expr (e : E)
  | shr (i j : Nat) (b : List S)
  | wth (is : List Nat) (j : Nat) (e : E) (b : List S)
  | lnd (j : Nat) (b : List S)
  | raise
  | brk
  | cnt
  | pass
abbrev Env := List (Option (D × Bool))
set_option genInjectivity true in
inductive Out where
  | nx (ρ : Env)
  | bk (ρ : Env)
  | ct (ρ : Env)
  | rt (d : D)
  | ex (x : D)
  | bad
structure Tab where
  fn : Nat → List D → R D
  new : Nat → List D → R D
def combK : Kd → Kd → Kd
  | .sto a, .sto b => if a.all (fun i => !b.contains i) = true then .sto (a ++ b) else .bor
  | _, _ => .bor
def getV (ρ : Env) (i : Nat) : R (D × Kd) := match ρ[i]? with
  | some (some (d, o)) => .ok (d, if d.imm = true then .sto [] else if o = true then .sto [i] else .old)
  | _ => .bad
def partK (d : D) : Kd → Kd
  | .old => if d.imm = true then .sto [] else .old
  | _ => if d.imm = true then .sto [] else .bor
def immK (d : D) : Kd := if d.imm = true then .sto [] else .bor
def atomEq : D → D → Option Bool
  | .int a, .int b => some (a == b)
  | .str a, .str b => some (a == b)
  | _, _ => none
def memL (x : D) : List D → Option Bool
  | [] => some false
  | y :: r => match atomEq y x, memL x r with
    | some a, some b => some (a || b)
    | _, _ => none
def tupKs : List D → Option (List (List Key))
  | [] => some []
  | .tup l :: r => match keysOf l, tupKs r with
    | some k, some ks => some (k :: ks)
    | _, _ => none
  | _ :: _ => none
def memT (x : D) (l : List D) : Option Bool := match x with
  | .tup t => (match keysOf t, tupKs l with
    | some k, some ks => some (ks.any fun j => decide (j = k))
    | _, _ => none)
  | _ => none
def memD (x c : D) : Option Bool := match c with
  | .lst l => if (keyOf x).isSome = true then memL x l else memT x l
  | .tup l => if (keyOf x).isSome = true then memL x l else none
  | _ => match dgetD c x with
    | some o => some o.isSome
    | none => none
def isNon : D → Bool
  | .non => true
  | _ => false
def cmpD (o : Cp) (a b : D) : R Bool := match o with
  | .eq => match eqD a b with | some k => .ok k | none => .bad
  | .ne => match eqD a b with | some k => .ok (!k) | none => .bad
  | .lt => i2 (fun a b => .ok (decide (a < b))) a b
  | .le => i2 (fun a b => .ok (decide (a ≤ b))) a b
  | .gt => i2 (fun a b => .ok (decide (b < a))) a b
  | .ge => i2 (fun a b => .ok (decide (b ≤ a))) a b
  | .isN => if isNon b = true then .ok (isNon a) else .bad
  | .notN => if isNon b = true then .ok (!isNon a) else .bad
  | .mem => match memD a b with | some k => .ok k | none => .bad
  | .nmem => match memD a b with | some k => .ok (!k) | none => .bad
theorem cmpD_1 (a : D) (b : D) : cmpD .eq a b = (match eqD a b with | some k => .ok k | none => .bad) := rfl
theorem cmpD_2 (a : D) (b : D) : cmpD .ne a b = (match eqD a b with | some k => .ok (!k) | none => .bad) := rfl
def truD : D → R Bool
  | .non => .ok false
  | .bl b => .ok b
  | .int i => .ok (i != 0)
  | .lst l => .ok (!l.isEmpty)
  | .tup l => .ok (!l.isEmpty)
  | _ => .bad
def atD (n : Nat) (i : Int) : Option Nat := if 0 ≤ i then (if i < n then some i.toNat else none) else if -(n : Int) ≤ i then some (i + n).toNat else none
def ixD (a i : D) : R D := match a, i with
  | .lst l, .int i => match atD l.length i with
    | some k => match l[k]? with | some d => .ok d | none => .bad
    | none => .bad
  | .tup l, .int i => match atD l.length i with
    | some k => match l[k]? with | some d => .ok d | none => .bad
    | none => .bad
  | _, _ => .bad
def cutAt (n : Nat) (d : Nat) : Option Int → Nat
  | none => d
  | some i => if i < 0 then (i + n).toNat else min i.toNat n
def cutD {α : Type} (xs : List α) (lo hi : Option Int) : List α := (xs.drop (cutAt xs.length 0 lo)).take (cutAt xs.length xs.length hi - cutAt xs.length 0 lo)
def setSlot (ρ : Env) (i : Nat) (d : D) (k : Kd) : Option Env := if i < ρ.length then (match k with
  | .sto is => some ((is.foldl (fun t j => t.set j none) ρ).set i (some (d, true)))
  | .old => some (ρ.set i (some (d, false)))
  | .bor => none) else none
def intsFrom (a : Int) (step : Int) : Nat → List D
  | 0 => []
  | n + 1 => .int a :: intsFrom (a + step) step n
def enumD (k : Int) : List D → List D
  | [] => []
  | d :: r => .tup [.int k, d] :: enumD (k + 1) r
def zipD : List D → List D → List D
  | x :: a, y :: b => .tup [x, y] :: zipD a b
  | _, _ => []
def itemsD : Itk → List D → Option (List D)
  | .each, [.lst l] => some l
  | .each, [.tup l] => some l
  | .keys, [.dK l] => some (l.map fun kv => keyD kv.1)
  | .zip, [.lst a, .lst b] => some (zipD a b)
  | .enum, [.lst l] => if immL l = true then some (enumD 0 l) else none
  | .range, [.int n] => if -(2 ^ 62) ≤ n ∧ n < 2 ^ 62 then some (intsFrom 0 1 n.toNat) else none
  | .range, [.int a, .int b] => if -(2 ^ 62) ≤ a ∧ a < 2 ^ 62 ∧ -(2 ^ 62) ≤ b ∧ b < 2 ^ 62 then some (intsFrom a 1 (b - a).toNat) else none
  | .range, [.int a, .int b, .int c] => if -(2 ^ 62) ≤ a ∧ a < 2 ^ 62 ∧ -(2 ^ 62) ≤ b ∧ b < 2 ^ 62 ∧ c = 2 then some (intsFrom a 2 ((b - a + 1) / 2).toNat) else none
  | _, _ => none
theorem itemsD_1 (l : List D) : itemsD .each [.lst l] = (some l) := rfl
theorem itemsD_2 (l : List D) : itemsD .each [.tup l] = (some l) := rfl
theorem itemsD_3 (n : Int) : itemsD .range [.int n] = (if -(2 ^ 62) ≤ n ∧ n < 2 ^ 62 then some (intsFrom 0 1 n.toNat) else none) := rfl
theorem itemsD_4 (a : Int) (b : Int) : itemsD .range [.int a, .int b] = (if -(2 ^ 62) ≤ a ∧ a < 2 ^ 62 ∧ -(2 ^ 62) ≤ b ∧ b < 2 ^ 62 then some (intsFrom a 1 (b - a).toNat) else none) := rfl
theorem itemsD_5 (a : Int) (b : Int) (c : Int) : itemsD .range [.int a, .int b, .int c] = (if -(2 ^ 62) ≤ a ∧ a < 2 ^ 62 ∧ -(2 ^ 62) ≤ b ∧ b < 2 ^ 62 ∧ c = 2 then some (intsFrom a 2 ((b - a + 1) / 2).toNat) else none) := rfl
def bindParts : Env → List Nat → List D → Option Env
  | ρ, i :: tg, d :: ds => match setSlot ρ i d (partK d .old) with
    | some ρ' => bindParts ρ' tg ds
    | none => none
  | ρ, _, _ => some ρ
def bindTg (ρ : Env) (tg : List Nat) (one : Bool) (d : D) (k : Kd) : Option Env := match one, tg with
  | true, [i] => setSlot ρ i d (partK d k)
  | false, tg => match d with
    | .tup ds => if ds.length = tg.length ∧ d.imm = true then some ((tg.zip ds).foldl (fun t p => t.set p.1 (some (p.2, true))) ρ) else if ds.length = tg.length then bindParts ρ tg ds else none
    | _ => none
  | _, _ => none
def compL (f : D → R (Option (D × Kd))) : List D → R (List D × Bool)
  | [] => .ok ([], true)
  | d :: r => match f d with
    | .ok none => compL f r
    | .ok (some (y, .sto [])) => (match compL f r with
      | .ok (ys, b) => .ok (y :: ys, b)
      | .ex x => .ex x
      | .bad => .bad)
    | .ok (some (y, .old)) => (match compL f r with
      | .ok (ys, _) => .ok (y :: ys, false)
      | .ex x => .ex x
      | .bad => .bad)
    | .ok (some _) => .bad
    | .ex x => .ex x
    | .bad => .bad
def inComp (ρ : Env) (tg : List Nat) : Env := tg.foldl (fun t i => t.set i none) (ρ.map fun e => e.map fun p => (p.1, false))
def turnC (ρ : Env) (tg : List Nat) (one : Bool) (c : Env → R Bool) (e : Env → R (D × Kd)) (d : D) : R (Option (D × Kd)) := match bindTg (inComp ρ tg) tg one d .old with
  | none => .bad
  | some ρ1 => match c ρ1 with
    | .ok true => (match e ρ1 with
      | .ok y => .ok (some y)
      | .ex x => .ex x
      | .bad => .bad)
    | .ok false => .ok none
    | .ex x => .ex x
    | .bad => .bad
def sumD : List D → R Int
  | [] => .ok 0
  | .int i :: r => match sumD r with | .ok n => .ok (i + n) | .ex x => .ex x | .bad => .bad
  | _ => .bad
def boolsD : List D → Option (List Bool)
  | [] => some []
  | .bl b :: r => (boolsD r).map (b :: ·)
  | _ => none
def intsD : List D → Option (List Int)
  | [] => some []
  | .int b :: r => (intsD r).map (b :: ·)
  | _ => none
def pairsD : List D → Option (List (Key × D))
  | [] => some []
  | .tup [k, v] :: r => match keyOf k, pairsD r with
    | some k, some ps => some ((k, v) :: ps)
    | _, _ => none
  | _ => none
def mergeD (l more : List (Key × D)) : List (Key × D) := more.foldl (fun acc kv => putD acc kv.1 kv.2) l
def sortI (l : List Int) : List Int := l.mergeSort (fun a b => decide (a ≤ b))
def sortD (l : List D) : Option (List D) := match intsD l with
  | some ns => if ns.length < 64 then some ((sortI ns).map D.int) else none
  | none => none
def headD : D → Option Int
  | .tup (.int i :: _) => some i
  | _ => none
def hkD (d : D) : Int := (headD d).getD 0
def insT (x : D) : List D → List D
  | [] => [x]
  | y :: r => if hkD x ≤ hkD y then x :: y :: r else y :: insT x r
def sortT (l : List D) : List D := l.foldr insT []
def itemsT (l : List (Key × D)) : List D := l.map fun kv => .tup [keyD kv.1, kv.2]
def tupsOk (l : List D) : Prop := (∀ d ∈ l, (headD d).isSome = true) ∧ immL l = true ∧ (l.map hkD).Nodup ∧ l.length < 64
instance (l : List D) : Decidable (tupsOk l) := by unfold tupsOk; infer_instance
def bi1 : Bi → D → R D
  | .len, .lst l => .ok (.int l.length)
  | .len, .tup l => .ok (.int l.length)
  | .len, .dK l => .ok (.int l.length)
  | .sum, .lst l => match sumD l with | .ok n => .ok (.int n) | .ex x => .ex x | .bad => .bad
  | .any, .lst l => match boolsD l with | some bs => .ok (.bl (bs.any id)) | none => .bad
  | .all, .lst l => match boolsD l with | some bs => .ok (.bl (bs.all id)) | none => .bad
  | .list, .lst l => if immL l = true then .ok (.lst l) else .bad
  | .list, .tup l => if immL l = true then .ok (.lst l) else .bad
  | .tuple, .lst l => if immL l = true then .ok (.tup l) else .bad
  | .dict, .lst l => match pairsD l with | some ps => if immL (ps.map (·.2)) = true ∧ ps.length ≤ 1000000 then .ok (.dK (mergeD [] ps)) else .bad | none => .bad
  | .sorted, .lst l => match sortD l with | some m => .ok (.lst m) | none => .bad
  | .sorted, .dK l => match sortD (l.map fun kv => keyD kv.1) with | some m => .ok (.lst m) | none => .bad
  | .isInt, .int _ => .ok (.bl true)
  | .isInt, .bl _ => .ok (.bl true)
  | .isInt, .str _ => .ok (.bl false)
  | .isBool, .bl _ => .ok (.bl true)
  | .isBool, .int _ => .ok (.bl false)
  | .isBool, .str _ => .ok (.bl false)
  | .isTuple, .tup _ => .ok (.bl true)
  | .isList, .lst _ => .ok (.bl true)
  | .sortT, .lst l => if tupsOk l then .ok (.lst (sortT l)) else .bad
  | .sortI, .dK l => if tupsOk (itemsT l) then .ok (.lst (sortT (itemsT l))) else .bad
  | .listK, .dK l => .ok (.lst (l.map fun kv => keyD kv.1))
  | _, _ => .bad
def biD (b : Bi) : List D → R D
  | [d] => bi1 b d
  | _ => .bad
theorem biD_1 (l : List D) : biD .len [.lst l] = (.ok (.int l.length)) := rfl
theorem biD_2 (l : List D) : biD .len [.tup l] = (.ok (.int l.length)) := rfl
theorem biD_3 (l : List (Key × D)) : biD .len [.dK l] = (.ok (.int l.length)) := rfl
theorem biD_4 (l : List D) : biD .sum [.lst l] = (match sumD l with | .ok n => .ok (.int n) | .ex x => .ex x | .bad => .bad) := rfl
theorem biD_5 (l : List D) : biD .any [.lst l] = (match boolsD l with | some bs => .ok (.bl (bs.any id)) | none => .bad) := rfl
theorem biD_6 (l : List D) : biD .all [.lst l] = (match boolsD l with | some bs => .ok (.bl (bs.all id)) | none => .bad) := rfl
theorem biD_7 (l : List D) : biD .list [.lst l] = (if immL l = true then .ok (.lst l) else .bad) := rfl
theorem biD_8 (l : List D) : biD .tuple [.lst l] = (if immL l = true then .ok (.tup l) else .bad) := rfl
theorem biD_9 (l : List D) : biD .dict [.lst l] = (match pairsD l with | some ps => if immL (ps.map (·.2)) = true ∧ ps.length ≤ 1000000 then .ok (.dK (mergeD [] ps)) else .bad | none => .bad) := rfl
theorem biD_10 (l : List D) : biD .sorted [.lst l] = (match sortD l with | some m => .ok (.lst m) | none => .bad) := rfl
theorem biD_11 (l : List (Key × D)) : biD .sorted [.dK l] = (match sortD (l.map fun kv => keyD kv.1) with | some m => .ok (.lst m) | none => .bad) := rfl
theorem biD_12 (u1 : Int) : biD .isInt [.int u1] = (.ok (.bl true)) := rfl
theorem biD_13 (u1 : Bool) : biD .isInt [.bl u1] = (.ok (.bl true)) := rfl
theorem biD_14 (u1 : Str) : biD .isInt [.str u1] = (.ok (.bl false)) := rfl
theorem biD_15 (u1 : Bool) : biD .isBool [.bl u1] = (.ok (.bl true)) := rfl
theorem biD_16 (u1 : Int) : biD .isBool [.int u1] = (.ok (.bl false)) := rfl
theorem biD_17 (u1 : Str) : biD .isBool [.str u1] = (.ok (.bl false)) := rfl
theorem biD_18 (u1 : List D) : biD .isTuple [.tup u1] = (.ok (.bl true)) := rfl
theorem biD_20 (l : List D) : biD .list [.tup l] = (if immL l = true then .ok (.lst l) else .bad) := rfl
theorem biD_19 (u1 : List D) : biD .isList [.lst u1] = (.ok (.bl true)) := rfl
def tru1 (r : R (D × Kd)) : R Bool := match r with
  | .ok (x, _) => truD x
  | .ex x => .ex x
  | .bad => .bad
def dispK : Kd → Kd
  | .sto is => .sto is
  | _ => .bor
def isNil : E → Bool
  | .nil => true
  | _ => false
def intO : D → Option (Option Int)
  | .int i => some (some i)
  | _ => none
def optI (e : E) (d : D) : Option (Option Int) := match isNil e with
  | true => some none
  | false => intO d
def slD (x : D) (lo hi : Option (Option Int)) : R (D × Kd) := match x with
  | .lst l => (match lo with
    | some lo => (match hi with
      | some hi => if immL l = true then .ok (.lst (cutD l lo hi), .sto []) else .bad
      | none => .bad)
    | none => .bad)
  | _ => .bad
theorem slD_1 (l : List D) (lo hi : Option Int) : slD (.lst l) (some lo) (some hi) = (if immL l = true then .ok (.lst (cutD l lo hi), .sto []) else .bad) := rfl
def pickD {α : Type} (l : List α) (lo hi : Option Int) : List α := (PySem.sliceRange (PySem.sliceBounds lo hi (some 2) l.length).1 (PySem.sliceBounds lo hi (some 2) l.length).2.1 (PySem.sliceBounds lo hi (some 2) l.length).2.2).filterMap (l[·]?)
def sl2D (x : D) (lo hi : Option (Option Int)) : R (D × Kd) := match x with
  | .lst l => (match lo with
    | some lo => (match hi with
      | some hi => if immL l = true then .ok (.lst (pickD l lo hi), .sto []) else .bad
      | none => .bad)
    | none => .bad)
  | _ => .bad
def ownL : Option (Option (D × Bool)) → Option (List D)
  | some (some (d, true)) => (match d with | .lst l => some l | _ => none)
  | _ => none
theorem ownL_1 (l : List D) : ownL (some (some (.lst l, true))) = some l := rfl
theorem ownL_some {o : Option (Option (D × Bool))} {l : List D} (h : ownL o = some l) : o = some (some (.lst l, true)) := by
  match o, h with
  | some (some (d, true)), h =>
    cases d with
    | lst m => (injection h with h; subst h); rfl
    | _ => injection h
  | some (some (d, false)), h => injection h
  | some none, h => injection h
  | none, h => injection h
def ownO : Option (Option (D × Bool)) → Option (Nat × List (Str × D))
  | some (some (d, true)) => (match d with | .obj c fs => some (c, fs) | _ => none)
  | _ => none
mutual
def runE (M : Tab) : E → Env → R (D × Kd)
  | .nil, _ => .ok (.non, .sto [])
  | .var i, ρ => getV ρ i
  | .int i, _ => .ok (.int i, .sto [])
  | .bl b, _ => .ok (.bl b, .sto [])
  | .non, _ => .ok (.non, .sto [])
  | .str x, _ => .ok (.str x, .sto [])
  | .glb d, _ => .ok (d, .sto [])
  | .bin o a b, ρ => do
    let (x, _) ← runE M a ρ
    let (y, _) ← runE M b ρ
    let z ← opD o x y
    pure (z, kdOf z)
  | .neg a, ρ => do
    let (x, _) ← runE M a ρ
    match x with
    | .int i => pure (.int (-i), .sto [])
    | _ => .bad
  | .cmp o a b, ρ => do
    let (x, _) ← runE M a ρ
    let (y, _) ← runE M b ρ
    let z ← cmpD o x y
    pure (.bl z, .sto [])
  | .not a, ρ => do
    let (x, _) ← runE M a ρ
    match x with
    | .bl c => pure (.bl (!c), .sto [])
    | _ => .bad
  | .and a b, ρ => do
    let (x, _) ← runE M a ρ
    match x with
    | .bl true => runE M b ρ
    | .bl false => pure (.bl false, .sto [])
    | _ => .bad
  | .or a b, ρ => do
    let (x, _) ← runE M a ρ
    match x with
    | .bl true => pure (.bl true, .sto [])
    | .bl false => runE M b ρ
    | _ => .bad
  | .ife c a b, ρ => do
    let (x, _) ← runE M c ρ
    let t ← truD x
    if t = true then runE M a ρ else runE M b ρ
  | .call f as, ρ => do
    let (ds, _) ← runEs M as ρ
    let r ← M.fn f ds
    pure (r, .sto [])
  | .make f as, ρ => do
    let (ds, _) ← runEs M as ρ
    let r ← M.new f ds
    pure (r, .sto [])
  | .meth f m o as, ρ => do
    let (x, _) ← runE M o ρ
    let (ds, _) ← runEs M as ρ
    match x with
    | .obj _ fs => if fs.lookup m = none then (do
      let r ← M.fn f (x :: ds)
      pure (r, .sto [])) else .bad
    | _ => .bad
  | .bi b as, ρ => do
    let (ds, _) ← runEs M as ρ
    let r ← biD b ds
    pure (r, kdOf r)
  | .get1 o k, ρ => do
    let (x, _) ← runE M o ρ
    let (y, _) ← runE M k ρ
    match dgetD x y with
    | some r => pure (r.getD .non, immK (r.getD .non))
    | none => .bad
  | .get2 o k z, ρ => do
    let (x, _) ← runE M o ρ
    let (y, _) ← runE M k ρ
    let (w, _) ← runE M z ρ
    match dgetD x y with
    | some r => pure (r.getD w, immK (r.getD w))
    | none => .bad
  | .fld o x, ρ => do
    let (v, k) ← runE M o ρ
    match v with
    | .obj _ fs => match fs.lookup x with
      | some d => pure (d, partK d k)
      | none => .bad
    | _ => .bad
  | .ix a i, ρ => do
    let (x, k) ← runE M a ρ
    let (y, _) ← runE M i ρ
    let d ← ixD x y
    pure (d, partK d k)
  | .dix a i, ρ => do
    let (x, _) ← runE M a ρ
    let (y, _) ← runE M i ρ
    match dgetD x y with
    | some (some d) => pure (d, immK d)
    | _ => .bad
  | .sl a lo hi, ρ => do
    let (x, _) ← runE M a ρ
    let (l, _) ← runE M lo ρ
    let (h, _) ← runE M hi ρ
    slD x (optI lo l) (optI hi h)
  | .sl2 a lo hi, ρ => do
    let (x, _) ← runE M a ρ
    let (l, _) ← runE M lo ρ
    let (h, _) ← runE M hi ρ
    sl2D x (optI lo l) (optI hi h)
  | .rev a, ρ => do
    let (x, _) ← runE M a ρ
    match x with
    | .lst l => if immL l = true then pure (.lst l.reverse, .sto []) else .bad
    | .tup l => if immL l = true then pure (.tup l.reverse, .sto []) else .bad
    | _ => .bad
  | .isB a b, ρ => do
    let (x, _) ← runE M a ρ
    match x with
    | .int _ => pure (.bl false, .sto [])
    | _ => .bad
  | .tup as, ρ => do
    let (ds, k) ← runEs M as ρ
    if ds.length ≤ 1000000 then pure (.tup ds, k) else .bad
  | .lst as, ρ => do
    let (ds, k) ← runEs M as ρ
    if ds.length ≤ 1000000 then pure (.lst ds, dispK k) else .bad
  | .dnew t, _ => .ok (if t = true then .dT [] else .dK [], .sto [])
  | .comp e tg one ik it c, ρ => do
    let (xs, _) ← runI M ik it ρ
    if 1000000 < xs.length then .bad else do
      let (ys, b) ← compL (turnC ρ tg one (fun ρ1 => tru1 (runE M c ρ1)) (fun ρ1 => runE M e ρ1)) xs
      pure (.lst ys, if b = true then .sto [] else .bor)
def runEs (M : Tab) : List E → Env → R (List D × Kd)
  | [], _ => .ok ([], .sto [])
  | a :: r, ρ => do
    let (d, k) ← runE M a ρ
    let (ds, k') ← runEs M r ρ
    pure (d :: ds, combK k k')
def runI (M : Tab) (ik : Itk) : List E → Env → R (List D × Kd)
  | [], _ => .bad
  | a :: r, ρ => do
    let (d, k) ← runE M a ρ
    let (ds, k') ← runEs M r ρ
    match itemsD ik (d :: ds) with
    | none => .bad
    | some xs => pure (xs, match ik with | .each => k | .range => .sto [] | .enum => k | .keys => k | .zip => combK k k')
end
def Out.bind (o : Out) (f : Env → Out) : Out := match o with
  | .nx ρ => f ρ
  | .bk ρ => .bk ρ
  | .ct ρ => .ct ρ
  | .rt d => .rt d
  | .ex x => .ex x
  | .bad => .bad
def ofR {α : Type} (r : R α) (f : α → Out) : Out := match r with
  | .ok a => f a
  | .ex x => .ex x
  | .bad => .bad
def ofO (r : Option Env) : Out := match r with
  | some ρ => .nx ρ
  | none => .bad
def forL (f : Env → D → Out) : List D → Env → Out
  | [], ρ => .nx ρ
  | d :: r, ρ => match f ρ d with
    | .nx ρ' => forL f r ρ'
    | .ct ρ' => forL f r ρ'
    | .bk ρ' => .nx ρ'
    | .rt x => .rt x
    | .ex x => .ex x
    | .bad => .bad
def whlL (c : Env → R Bool) (f : Env → Out) : Nat → Env → Out
  | 0, _ => .bad
  | n + 1, ρ => match c ρ with
    | .ok true => match f ρ with
      | .nx ρ' => whlL c f n ρ'
      | .ct ρ' => whlL c f n ρ'
      | .bk ρ' => .nx ρ'
      | .rt x => .rt x
      | .ex x => .ex x
      | .bad => .bad
    | .ok false => .nx ρ
    | .ex x => .ex x
    | .bad => .bad
mutual
def asg : S → List Nat
  | .set i _ => [i]
  | .unp is _ => is
  | .ifs _ a b => asgs a ++ asgs b
  | .for tg _ _ _ b => tg ++ asgs b
  | .pop i _ => [i]
  | .eachRvs t _ => [t]
  | .eachClr t _ => [t]
  | .whl _ _ b => asgs b
  | .wth is _ _ b => is ++ asgs b
  | .lnd _ b => asgs b
  | _ => []
def asgs : List S → List Nat
  | [] => []
  | s :: r => asg s ++ asgs r
end
def noBor : Kd → Bool
  | .bor => false
  | _ => true
def lendTo (ρ : Env) (k : Kd) : Env := match k with
  | .sto is => ρ.mapIdx fun j e => if is.contains j = true then (match e with | some (d, _) => some (d, false) | none => none) else e
  | _ => ρ
def rest (ρ ρl ρ' : Env) (ws : List Nat) : Env := ρ'.mapIdx fun j e =>
  if ws.contains j = true then (match e with
    | some (d, true) => some (d, true)
    | some (d, false) => if d.imm = true then some (d, true) else none
    | none => none)
  else (match ρl[j]? with
    | some (some (_, false)) => (match ρ[j]? with | some x => x | none => none)
    | _ => (match e with
      | some (d, true) => some (d, true)
      | _ => none))
def restO (ρ ρl : Env) (ws : List Nat) : Out → Out
  | .nx ρ' => .nx (rest ρ ρl ρ' ws)
  | .bk ρ' => .bk (rest ρ ρl ρ' ws)
  | .ct ρ' => .ct (rest ρ ρl ρ' ws)
  | .rt d => .rt d
  | .ex x => .ex x
  | .bad => .bad
def retK (d : D) : Kd → Out
  | .sto _ => .rt d
  | .old => .bad
  | .bor => .bad
def flats : List D → Option (List (List D))
  | [] => some []
  | .lst l :: r => (match flats r with
    | some ls => if immL l = true then some (l :: ls) else none
    | none => none)
  | _ :: _ => none
def seqD : D → Kd → Option (List D)
  | .tup l, _ => some l
  | .lst l, .sto [] => some l
  | _, _ => none
def turnD (tg : List Nat) (one : Bool) (f : Env → Out) (ρ : Env) (d : D) : Out := match bindTg ρ tg one d .old with
  | none => .bad
  | some ρ1 => f ρ1
mutual
def runS (M : Tab) : S → Env → Out
  | .set i e, ρ => ofR (runE M e ρ) fun (d, k) => ofO (setSlot ρ i d k)
  | .unp is e, ρ => ofR (runE M e ρ) fun (d, k) => match d, k with
    | .tup ds, .sto js => if ds.length = is.length ∧ is.Nodup ∧ (∀ i ∈ is, i < ρ.length) then .nx ((is.zip ds).foldl (fun t p => t.set p.1 (some (p.2, true))) (js.foldl (fun t j => t.set j none) ρ)) else .bad
    | _, _ => .bad
  | .ret e, ρ => ofR (runE M e ρ) fun (d, k) => retK d k
  | .ifs c a b, ρ => ofR (runE M c ρ) fun (x, _) => ofR (truD x) fun t => if t = true then runSs M a ρ else runSs M b ρ
  | .for tg one ik it b, ρ => ofR (runI M ik it ρ) fun (xs, k) => if noBor k = false then .bad else restO ρ (lendTo ρ k) (tg ++ asgs b) (forL (turnD tg one fun ρ1 => runSs M b ρ1) xs (lendTo ρ k))
  | .whl n c b, ρ => whlL (fun ρ' => tru1 (runE M c ρ')) (fun ρ' => runSs M b ρ') n ρ
  | .app i e, ρ => ofR (runE M e ρ) fun (d, k) => match ownL ρ[i]?, k with
    | some l, .sto js => if l.length < 1000000 ∧ i ∉ js then .nx ((js.foldl (fun t j => t.set j none) ρ).set i (some (.lst (l ++ [d]), true))) else .bad
    | _, _ => .bad
  | .rvs i, ρ => match ownL ρ[i]? with
    | some l => if immL l = true then .nx (ρ.set i (some (.lst l.reverse, true))) else .bad
    | none => .bad
  | .clr i, ρ => match ownL ρ[i]? with
    | some _ => .nx (ρ.set i (some (.lst [], true)))
    | none => .bad
  | .pop i j, ρ => match ownL ρ[j]? with
    | some l => (match l.getLast? with
      | some d => if d.imm = true ∧ i ≠ j ∧ i < ρ.length then .nx ((ρ.set j (some (.lst l.dropLast, true))).set i (some (d, true))) else .bad
      | none => .bad)
    | none => .bad
  | .ext i e, ρ => ofR (runE M e ρ) fun (d, k) => match ownL ρ[i]?, seqD d k with
    | some l, some m => if immL m = true ∧ l.length + m.length ≤ 1000000 then .nx (ρ.set i (some (.lst (l ++ m), true))) else .bad
    | _, _ => .bad
  | .eachRvs t i, ρ => match ownL ρ[i]? with
    | some l => (match flats l with
      | some ls => if t ≠ i ∧ t < ρ.length then .nx ((ρ.set i (some (.lst (ls.map fun l => .lst l.reverse), true))).set t none) else .bad
      | none => .bad)
    | none => .bad
  | .eachClr t i, ρ => match ownL ρ[i]? with
    | some l => (match flats l with
      | some ls => if t ≠ i ∧ t < ρ.length then .nx ((ρ.set i (some (.lst (ls.map fun _ => .lst []), true))).set t none) else .bad
      | none => .bad)
    | none => .bad
  | .appIx i j e, ρ => ofR (runE M e ρ) fun (d, _) => match ownL ρ[i]? with
    | some l => (match flats l with
      | some ls => (match ls[j]? with
        | some m => if d.imm = true ∧ m.length < 1000000 then .nx (ρ.set i (some (.lst ((ls.set j (m ++ [d])).map D.lst), true))) else .bad
        | none => .bad)
      | none => .bad)
    | none => .bad
  | .clrIx i j k, ρ => match ownL ρ[i]? with
    | some l => (match l[j]? with
      | some (.tup ds) => (match ds[k]? with
        | some (.lst m) => if immL m = true then .nx (ρ.set i (some (.lst (l.set j (.tup (ds.set k (.lst [])))), true))) else .bad
        | _ => .bad)
      | _ => .bad)
    | none => .bad
  | .rvsL i, ρ => match ownL ρ[i]? with
    | some l => (match flats l with
      | some ls => .nx (ρ.set i (some (.lst (ls.reverse.map D.lst), true)))
      | none => .bad)
    | none => .bad
  | .chg i e, ρ => ofR (runE M e ρ) fun (d, _) => match ownL ρ[i]?, d with
    | some l, .int _ => (match flats l with
      | some ls => if (∀ m ∈ ls, m.length < 1000) ∧ ls.length < 1000 then .nx (ρ.set i none) else .bad
      | none => .bad)
    | _, _ => .bad
  | .put i k v, ρ => ofR (runE M v ρ) fun (y, _) => ofR (runE M k ρ) fun (x, _) => match ρ[i]? with
    | some (some (d, true)) => if y.imm = true then (match dputD d x y with
      | some d' => .nx (ρ.set i (some (d', true)))
      | none => .bad) else .bad
    | _ => .bad
  | .setIx i k v, ρ => ofR (runE M v ρ) fun (y, _) => ofR (runE M k ρ) fun (x, _) => match ownL ρ[i]?, x with
    | some l, .int j => if y.imm = true ∧ immL l = true ∧ 0 ≤ j ∧ j < l.length then .nx (ρ.set i (some (.lst (l.set j.toNat y), true))) else .bad
    | _, _ => .bad
  | .fset x e, ρ => ofR (runE M e ρ) fun (d, k) => match ownO ρ[(0 : Nat)]?, k with
    | some (c, fs), .sto js => if fs.length < 900 ∧ fs.lookup x = none ∧ 0 ∉ js then .nx ((js.foldl (fun t j => t.set j none) ρ).set 0 (some (.obj c (fs ++ [(x, d)]), true))) else .bad
    | _, _ => .bad
  | .expr e, ρ => ofR (runE M e ρ) fun _ => .nx ρ
  | .shr i j b, ρ => match ρ[j]? with
    | some (some (d, true)) => (match bindTg (lendTo ρ (.sto [j])) [i] true d .old with
      | some ρ2 => (match runSs M b ρ2 with
        | .rt x => .rt x
        | _ => .bad)
      | none => .bad)
    | _ => .bad
  | .lnd j b, ρ => restO ρ (lendTo ρ (.sto [j])) (asgs b) (runSs M b (lendTo ρ (.sto [j])))
  | .wth is j e b, ρ => match runE M e (lendTo ρ (.sto [j])) with
    | .ok (d, .old) => (match bindTg (lendTo ρ (.sto [j])) is false d .old with
      | some ρ2 => restO ρ (lendTo ρ (.sto [j])) (is ++ asgs b) (runSs M b ρ2)
      | none => .bad)
    | _ => .bad
  | .raise, _ => .bad
  | .brk, ρ => .bk ρ
  | .cnt, ρ => .ct ρ
  | .pass, ρ => .nx ρ
def runSs (M : Tab) : List S → Env → Out
  | [], ρ => .nx ρ
  | s :: r, ρ => (runS M s ρ).bind fun ρ' => runSs M r ρ'
end
theorem rE_var {M : Tab} {i} {ρ : Env} : runE M (.var i) ρ = (getV ρ i) := rfl
theorem rE_int {M : Tab} {i} {ρ : Env} : runE M (.int i) ρ = (.ok (.int i, .sto [])) := rfl
theorem rE_bl {M : Tab} {b} {ρ : Env} : runE M (.bl b) ρ = (.ok (.bl b, .sto [])) := rfl
theorem rE_bin {M : Tab} {o a b} {ρ : Env} : runE M (.bin o a b) ρ = (do
    let (x, _) ← runE M a ρ
    let (y, _) ← runE M b ρ
    let z ← opD o x y
    pure (z, kdOf z)) := rfl
theorem rE_cmp {M : Tab} {o a b} {ρ : Env} : runE M (.cmp o a b) ρ = (do
    let (x, _) ← runE M a ρ
    let (y, _) ← runE M b ρ
    let z ← cmpD o x y
    pure (.bl z, .sto [])) := rfl
theorem rE_not {M : Tab} {a} {ρ : Env} : runE M (.not a) ρ = (do
    let (x, _) ← runE M a ρ
    match x with
    | .bl c => pure (.bl (!c), .sto [])
    | _ => .bad) := rfl
theorem rE_and {M : Tab} {a b} {ρ : Env} : runE M (.and a b) ρ = (do
    let (x, _) ← runE M a ρ
    match x with
    | .bl true => runE M b ρ
    | .bl false => pure (.bl false, .sto [])
    | _ => .bad) := rfl
theorem rE_or {M : Tab} {a b} {ρ : Env} : runE M (.or a b) ρ = (do
    let (x, _) ← runE M a ρ
    match x with
    | .bl true => pure (.bl true, .sto [])
    | .bl false => runE M b ρ
    | _ => .bad) := rfl
theorem rE_ife {M : Tab} {c a b} {ρ : Env} : runE M (.ife c a b) ρ = (do
    let (x, _) ← runE M c ρ
    let t ← truD x
    if t = true then runE M a ρ else runE M b ρ) := rfl
theorem rE_call {M : Tab} {f as} {ρ : Env} : runE M (.call f as) ρ = (do
    let (ds, _) ← runEs M as ρ
    let r ← M.fn f ds
    pure (r, .sto [])) := rfl
theorem rE_bi {M : Tab} {b as} {ρ : Env} : runE M (.bi b as) ρ = (do
    let (ds, _) ← runEs M as ρ
    let r ← biD b ds
    pure (r, kdOf r)) := rfl
theorem rE_fld {M : Tab} {o x} {ρ : Env} : runE M (.fld o x) ρ = (do
    let (v, k) ← runE M o ρ
    match v with
    | .obj _ fs => match fs.lookup x with
      | some d => pure (d, partK d k)
      | none => .bad
    | _ => .bad) := rfl
theorem rE_ix {M : Tab} {a i} {ρ : Env} : runE M (.ix a i) ρ = (do
    let (x, k) ← runE M a ρ
    let (y, _) ← runE M i ρ
    let d ← ixD x y
    pure (d, partK d k)) := rfl
theorem rE_sl {M : Tab} {a lo hi} {ρ : Env} : runE M (.sl a lo hi) ρ = (do
    let (x, _) ← runE M a ρ
    let (l, _) ← runE M lo ρ
    let (h, _) ← runE M hi ρ
    slD x (optI lo l) (optI hi h)) := rfl
theorem rE_lst {M : Tab} {as} {ρ : Env} : runE M (.lst as) ρ = (do
    let (ds, k) ← runEs M as ρ
    if ds.length ≤ 1000000 then pure (.lst ds, dispK k) else .bad) := rfl
theorem rE_comp {M : Tab} {e tg one ik it c} {ρ : Env} : runE M (.comp e tg one ik it c) ρ = (do
    let (xs, _) ← runI M ik it ρ
    if 1000000 < xs.length then .bad else do
      let (ys, b) ← compL (turnC ρ tg one (fun ρ1 => tru1 (runE M c ρ1)) (fun ρ1 => runE M e ρ1)) xs
      pure (.lst ys, if b = true then .sto [] else .bor)) := rfl
theorem rEs_0 {M : Tab} {ρ : Env} : runEs M [] ρ = (.ok ([], .sto [])) := rfl
theorem rEs_1 {M : Tab} {a r} {ρ : Env} : runEs M (a :: r) ρ = (do
    let (d, k) ← runE M a ρ
    let (ds, k') ← runEs M r ρ
    pure (d :: ds, combK k k')) := rfl
theorem rS_set {M : Tab} {i e} {ρ : Env} : runS M (.set i e) ρ = (ofR (runE M e ρ) fun (d, k) => ofO (setSlot ρ i d k)) := rfl
theorem rS_ret {M : Tab} {e} {ρ : Env} : runS M (.ret e) ρ = (ofR (runE M e ρ) fun (d, k) => retK d k) := rfl
theorem rS_ifs {M : Tab} {c a b} {ρ : Env} : runS M (.ifs c a b) ρ = (ofR (runE M c ρ) fun (x, _) => ofR (truD x) fun t => if t = true then runSs M a ρ else runSs M b ρ) := rfl
theorem rS_for {M : Tab} {tg one ik it b} {ρ : Env} : runS M (.for tg one ik it b) ρ = (ofR (runI M ik it ρ) fun (xs, k) => if noBor k = false then .bad else restO ρ (lendTo ρ k) (tg ++ asgs b) (forL (turnD tg one fun ρ1 => runSs M b ρ1) xs (lendTo ρ k))) := rfl
theorem rS_app {M : Tab} {i e} {ρ : Env} : runS M (.app i e) ρ = (ofR (runE M e ρ) fun (d, k) => match ownL ρ[i]?, k with
    | some l, .sto js => if l.length < 1000000 ∧ i ∉ js then .nx ((js.foldl (fun t j => t.set j none) ρ).set i (some (.lst (l ++ [d]), true))) else .bad
    | _, _ => .bad) := rfl
theorem rS_clr {M : Tab} {i} {ρ : Env} : runS M (.clr i) ρ = (match ownL ρ[i]? with
    | some _ => .nx (ρ.set i (some (.lst [], true)))
    | none => .bad) := rfl
theorem rSs_0 {M : Tab} {ρ : Env} : runSs M [] ρ = (.nx ρ) := rfl
theorem rSs_1 {M : Tab} {s r} {ρ : Env} : runSs M (s :: r) ρ = ((runS M s ρ).bind fun ρ' => runSs M r ρ') := rfl
theorem rI_1 {M : Tab} {ik : Itk} {a r} {ρ : Env} : runI M ik (a :: r) ρ = (do
    let (d, k) ← runE M a ρ
    let (ds, k') ← runEs M r ρ
    match itemsD ik (d :: ds) with
    | none => .bad
    | some xs => pure (xs, match ik with | .each => k | .range => .sto [] | .enum => k | .keys => k | .zip => combK k k')) := rfl
structure Fn where
  par : Nat
  slots : Nat
  body : List S
def Fn.run (f : Fn) (M : Tab) (ds : List D) : R D := if ds.length = f.par ∧ f.par ≤ f.slots then (match runSs M f.body (ds.map (fun d => some (d, false)) ++ List.replicate (f.slots - f.par) none) with
  | .rt d => .ok d
  | .nx _ => .ok .non
  | .ex x => .ex x
  | _ => .bad) else .bad
def Fn.init (f : Fn) (M : Tab) (c : Nat) (ds : List D) : R D := if ds.length + 1 = f.par ∧ f.par ≤ f.slots then (match runSs M f.body (some (.obj c [], true) :: (ds.map (fun d => some (d, false)) ++ List.replicate (f.slots - f.par) none)) with
  | .nx ρ => (match ρ[(0 : Nat)]? with | some (some (d, true)) => .ok d | _ => .bad)
  | .ex x => .ex x
  | _ => .bad) else .bad
end Vi
namespace L2
open PySem PySem.Spec PyProof.Rows
section
variable {P : Program} {w : World} {H : Hp} {h : Heap} {a : Addr} {o : HO}
theorem ObjOk.has (x : ObjOk P w H h a o) : ∃ ob, h.get? a = some ob := by
  induction o with
  | lst xs => obtain ⟨_, _, _, _, e⟩ := x; exact ⟨_, e⟩
  | tup xs => obtain ⟨_, _, _, o, e, _⟩ := x; exact ⟨_, e⟩
  | dK kvs => obtain ⟨_, _, _, _, o, _, _, e, _⟩ := x; exact ⟨_, e⟩
  | dT kvs => obtain ⟨_, _, _, _, o, _, _, e, _⟩ := x; exact ⟨_, e⟩
  | set S n => obtain ⟨o, _, _, _, e, _⟩ := x; exact ⟨_, e⟩
  | ins C dx fs => obtain ⟨_, _, _, e, _⟩ := x; exact ⟨_, e⟩
  | own y => obtain ⟨_, e⟩ := x; exact ⟨_, e⟩
  | xd fs => obtain ⟨_, ⟨_, _, _, e, _⟩, _⟩ := x; exact ⟨_, e⟩
  | rng lo hi => obtain ⟨_, _, _, e⟩ := x; exact ⟨_, e⟩
  | frz ob u _ => obtain ⟨e, _⟩ := x; exact ⟨_, e⟩
  | tbl ps => exact ⟨_, (show h.get? a = some _ from x)⟩
  | met f y => exact ⟨_, (show h.get? a = some _ from x)⟩
  | ext φ => obtain ⟨_, ⟨_, e⟩, _⟩ := x; exact ⟨_, e⟩
end
section
variable {X : Cx} {pins : List (Addr × Obj)} {σ : St} {H : Hp} {s : Shared}
end
section
variable {P : Program} {w : World} {K : PySem.W.Frag} {mg : Str → Option Value} {base : Heap} {N : List Str} {qual : Str} {scope : Scope} {f : Addr} {cd : Value} {A : Around} {outer : List Env} {s : Shared} {H : Hp} {E : XK}
end
set_option tactic.hygienic true in
theorem exc_parts {K : PySem.W.Frag} {C : Addr} {bmB : List Value} {newId : String} (q : PySem.W.excIn K C bmB newId = true) :
    ∃ (nm qn : Str) (N : Addr) (bs bm : List Value) (hdct : Bool) (sn : List Str) (sub : List Value) (ab : Bool) (col : Option Bool) (dd : Option Addr) (k0 k1 k2 k3 k5 : Option Value),
      K.lookup C = some (excClassObj nm qn C N bs bm hdct sn sub ab col dd k0 k1 k2 k3 k5 newId) ∧ PySem.W.tailIn K bmB bm = true ∧ PySem.W.nsOkIn K N = true ∧ PySem.W.nsIn K N "__init__" = some none := by
  unfold PySem.W.excIn at q
  split at q
  · rename_i dd cd sl lk
    split at q
    · rename_i C' bm k0 k1 k2 k3 n k5 hm hs
      simp only [Bool.and_eq_true, beq_iff_eq, Bool.not_eq_true'] at q
      obtain ⟨⟨⟨⟨⟨e1, e2⟩, e3⟩, e4⟩, e5⟩, e6⟩ := q
      obtain ⟨nm, bs, mro, ns, qn, hd, sn, sub, ab, col, del⟩ := cd
      obtain ⟨l⟩ := sl
      simp only at hm hs e3 e5 e6
      subst e1 e2 e3 hm hs
      exact ⟨nm, qn, ns, bs, bm, hd, sn, sub, ab, col, dd, k0, k1, k2, k3, k5, lk, e4, e5, e6⟩
    · injection q
  · injection q
section
variable {X : Cx} {E : XK} {x : Str} {C : Addr} {e : Expr} {es : List Expr} {t : TA} {np cpos pos : Pos} {B Bn newId nid initId inN : String} {bmB bmN : List Value}
end
section
variable {X : Cx} {pins : List (Addr × Obj)} {σ : St} {H H' : Hp} {s s' : Shared} {a C : Addr} {t0 : Value} {B h2 : Heap}
end
open PySem PySem.W PySem.Spec PySem.Calls PyProof.Rows PySem.Builtin PySem.Builtin.ObjectAttr PySem.Builtin.Getset_descriptor
def xcHead (K : Frag) (C : Addr) : Bool := findIn K (.ref C) "__getattribute__" == some (some (.builtin "BaseException.__getattribute__")) && findIn K (.ref C) "__getattr__" == some none && mroIn K C (.type "BaseException") == some true && (clsIn K C).isSome && findIn K (.ref C) "__class__" == some (some (.builtin "object.__class__")) && specialIn K (.builtin "object.__class__") "__get__" == some (some (.builtin "getset_descriptor.__get__")) &&
  takesIn K (.builtin "object.__class__") == some true && mroIn K C (.type "object") == some true
def XAt (a C : Addr) (h : Heap) : Prop := ∃ ob, h.get? a = some ob ∧ ob.cls = .ref C ∧ notCls ob = true
theorem XAt.ty {M : Model} {a C : Addr} {h : Heap} (x : XAt a C h) : Looks M h (typeOf (.ref a)) (.ref C) := by
  obtain ⟨ob, h1, h2, _⟩ := x
  exact h2 ▸ (Looks.ld h1).andThen .now
theorem kitx_exc {K : Frag} {a C : Addr} (hd : xcHead K C = true) : KitX K (.ref a) (.ref C) (XAt a C) := by
  unfold xcHead at hd
  simp only [Bool.and_eq_true, beq_iff_eq] at hd
  obtain ⟨⟨⟨⟨⟨⟨⟨hga, hk⟩, hbe⟩, hc⟩, ha⟩, hn⟩, htk⟩, hm⟩ := hd
  have isC : ∀ {h : Heap}, K.In h → ∃ o cd, h.get? C = some o ∧ o.data = .cls cd := fun {h} X => by
    unfold clsIn at hc
    split at hc
    · rename_i ho; exact ⟨_, _, X _ _ ho, rfl⟩
    · injection hc
  refine ⟨fun _ _ _ p => p.ty, fun M h X _ => ?_, fun h tp dd its n sl X htp => ?_, fun {prog w A E Q s} X p q => ?_⟩
  · obtain ⟨⟨c0, d0, dt, sl0⟩, cd, h1, h2⟩ := isC X
    intro A' Q' E' s' k z
    unfold isType loadHead
    dsimp only at h2
    subst h2
    exact wpAny_bind (wpAny_loadPart (k _ _ h1) (wpAny_pure z))
  · refine Bool.eq_false_iff.mpr fun z => ?_
    have e : C = tp := Value.ref.inj (beq_iff_eq.mp z)
    subst e
    obtain ⟨o, cd, h1, h2⟩ := isC X
    rw [htp] at h1; (injection h1 with h1; subst h1); injection h2
  · obtain ⟨hh, g, d, t, os⟩ := s
    have L0 := p.ty (M := model prog w)
    have L1 := looks_findIn (M := model prog w) X hga
    have L2 : Looks (model prog w) hh (find (.ref a) (.ref C) "__class__") (.bind (.builtin "getset_descriptor.__get__") (.builtin "object.__class__")) :=
      (looks_findIn X ha).andThen ((show Looks _ hh (getOf (some (.builtin "object.__class__"))) _ from looks_specialIn X hn).andThen
        ((show Looks _ hh (dataDescriptor? (some (.builtin "object.__class__")) (some (.builtin "getset_descriptor.__get__"))) (some (.builtin "getset_descriptor.__get__", .builtin "object.__class__")) from (looks_takesIn X htk).andThen .now).andThen (Looks.tag .now)))
    have L3 := looks_findIn (M := model prog w) X hk
    have L4 := looks_mroIn (M := model prog w) X hm
    have L5 := looks_mroIn (M := model prog w) X hbe
    have f3 := F.excAttr_ValueError.ga.bind (.ref a)
    have hk2 : builtinKind "BaseException.__getattribute__" = some .slot := by decide +kernel
    have hsp : splitId "BaseException.__getattribute__" = some ("BaseException", "__getattribute__") := by decide +kernel
    have hx1 : (onTheHeap (Value.ref C) && Value.builtin "BaseException.__getattribute__" == Value.builtin "object.__getattribute__") = false := by
      rw [show (Value.builtin "BaseException.__getattribute__" == Value.builtin "object.__getattribute__") = false by decide +kernel]; rfl
    unfold getAttr? getAttrBy? getAttrBy
    refine wpAny_bind (wpAny_mkText (wpAny_bind (wpAny_attempt (wpAny_holding (wpAny_bind (L0.at (wpAny_bind (L1.at ?_))))))))
    dsimp only
    rw [hx1, if_neg Bool.false_ne_true]
    unfold getAttrByItsOwn hookBefore
    rw [if_pos (show onTheHeap (Value.ref C) = true from rfl)]
    refine wpAny_bind (L3.at ?_)
    refine wpAny_bind (wpAny_attempt (wpAny_holding ?_))
    unfold callGetattribute
    rw [if_neg (by decide)]
    unfold boundAndCalled
    refine wpAny_bind (wpAny_of_eq f3 ?_)
    show wpAny _ _ (call (.builtin "BaseException.__getattribute__") [.ref a, .str "__class__" t]) _ _ _
    have hargs := F.args_bexc_ga (.ref a) (.str "__class__" t)
    refine wpAny_call (codeAny_call_builtin F.excAttr_ValueError.ga.plain F.entry_bexc_ga ?_)
    simp only [checkBuiltinCall, hk2, hsp]
    refine wpAny_bind ?_
    unfold isInstance
    refine wpAny_bind (L0.at (L5.at ?_))
    repeat (first | assumption | wp_step)
    obtain ⟨ob, hob, hoc, hno⟩ := id p
    refine wpAny_loadPart hob ?_
    refine wpAny_pure ?_
    rw [hoc]
    refine wpAny_bind (L2.at ?_)
    show wpAny _ _ (bindTo _ _ (.ref a) (.ref C)) _ _ _
    unfold bindTo
    refine wpAny_bind (wpAny_holding (wpAny_call ?_))
    refine codeAny_call_builtin KF.slot_gs.plain KF.entry_gs (KF.slot_gs.check _ _ _ _ _ _ _ _ KF.type_class (KF.args_gs _ _ _) ?_)
    unfold Builtin.«getset_descriptor.__get__» descrGet
    rw [dga_obj]
    refine wpAny_bind (wpAny_pure ?_)
    unfold descrGetter descrCheckInstance descrNameAndClass isInstance
    simp only [KF.owner_class]
    repeat lk
    refine ⟨Code.quiet_builtin _ (by decide +kernel), codeAny_builtin KF.entry_class ?_⟩
    unfold Builtin.«object.__class__» shownTypeOf
    repeat lk
    exact q
end L2
namespace L2
open PySem PySem.Spec PyProof.Rows
abbrev exOb (C : Value) (d : Option Addr) (a0 tb : Value) : Obj := { cls := C, dict := d, data := .fields #[a0, tb, .none, .none, .bool false, .none] }
section
variable {M : Model} {A : Around} {E : Value → Shared → Prop} {s : Shared} {base : Heap} {env : Env} {outer l : List Env} {L e : Addr} {C a0 tb : Value} {d : Option Addr} {Q : Unit → Shared → Prop}
end
section
variable {prog : Program} {w : World} {A : Around} {E : Value → Shared → Prop} {h : Heap} {g : Array GenState} {d : Drawn} {t : Nat} {os : OsState} {K : PySem.W.Frag} {f : Addr}
variable {nm q : Str} {C N : Addr} {bs bm bmB : List Value} {hdct : Bool} {sn : List Str} {sub : List Value} {ab : Bool} {col : Option Bool} {dd : Option Addr} {k0 k1 k2 k3 k5 : Option Value} {B Bn newId nid initId inN : String} {bmN : List Value}
abbrev heapE (h : Heap) (C : Addr) (rest : List Value) : Heap := (h.push { cls := .type "tuple", data := .seq rest.toArray }).push { cls := .ref C, data := .fields #[.ref h.objs.size, .none, .none, .none, .bool false, .none] }
theorem type_call_own (Fn : ExcBaseFacts Bn newId inN bmN) (hBn : bmB.contains (.type Bn) = true) (F : ExcBaseFacts B nid initId bmB) (T : OwnTail h bmB bm) {rest : List Value} {Q : Fin → Shared → Prop}
    (hC : h.get? C = some (excClassObj nm q C N bs bm hdct sn sub ab col dd k0 k1 k2 k3 k5 newId)) (X : K.In h) (hi : PySem.W.findIn K (.ref C) "__init__" = some (some (.ref f))) (hf : PySem.W.typeIn K (.ref f) = some (.type "function"))
    (hq : codeAny (model prog w) A (.call (.ref f) ⟨.ref (h.objs.size + 1) :: rest, []⟩) (fun r s' => match r with | .ok (.ret v) => v = .none ∧ Q (.done (.ret (.ref (h.objs.size + 1)))) s' | .ok _ => False | .error e => E e s') ⟨heapE h C rest, g, d, t, os⟩) (hrest : rest.length ≤ sizeLine := by size_fits) :
    wpAny (model prog w) A (Builtin.«type.__call__» ⟨.ref C :: rest, []⟩) Q E ⟨h, g, d, t, os⟩ := by
  repeat (first | with_reducible refine wpAny_loadPart_at hC ?_ | with_reducible refine wpAny_madeBy_exc hC ?_ | wp_step)
  refine codeAny_call_builtin_code (Code.quiet_builtin _ Fn.quiet) (wpAny_check_new_subU Fn hBn T hC ?_)
  refine codeAny_exc_new_subU Fn hBn F T hC ?_ hrest
  show wpAny _ _ _ _ _ _
  have hC1 := Heap.get?_push_of_some { cls := .ref C, data := .fields #[.ref h.objs.size, .none, .none, .none, .bool false, .none] } (Heap.get?_push_of_some { cls := .type "tuple", data := .seq rest.toArray } hC)
  have X1 : K.In (heapE h C rest) := X.keeps fun b o e => Heap.get?_push_of_some _ (Heap.get?_push_of_some _ e)
  have hget : (heapE h C rest).get? (h.objs.size + 1) = some { cls := .ref C, data := .fields #[.ref h.objs.size, .none, .none, .none, .bool false, .none] } := by heap_get
  have hcC : (Value.ref C :: bm).contains (.ref C) = true := by simp
  unfold isInstance
  repeat (first | with_reducible refine wpAny_loadPart_at hget ?_ | (with_reducible refine wpAny_isSubtype_exc hC1 ?_; rw [hcC]) | wp_step)
  show wpAny _ _ (typeLookup (.ref C) _) _ _ _
  refine (PySem.W.looks_findIn X1 hi).at ?_
  refine wpAny_holding (wpAny_bind ((PySem.W.bind_fn X1 (.ref (h.objs.size + 1)) hf).at ?_))
  refine wpAny_bind (wpAny_call (codeAny_mono hq fun r s' z => ?_))
  cases r with
  | error e => exact z
  | ok fl =>
    cases fl with
    | ret v =>
      obtain ⟨rfl, z⟩ := z
      refine wpAny_pure ?_
      dsimp only
      rw [if_neg (by decide)]
      exact wpAny_pure z
    | next => exact z.elim
    | brk => exact z.elim
    | cont => exact z.elim
theorem call_own (Fn : ExcBaseFacts Bn newId inN bmN) (hBn : bmB.contains (.type Bn) = true) (F : ExcBaseFacts B nid initId bmB) (T : OwnTail h bmB bm) {rest : List Value} {Q : Value → Shared → Prop}
    (hC : h.get? C = some (excClassObj nm q C N bs bm hdct sn sub ab col dd k0 k1 k2 k3 k5 newId)) (X : K.In h) (hi : PySem.W.findIn K (.ref C) "__init__" = some (some (.ref f))) (hf : PySem.W.typeIn K (.ref f) = some (.type "function"))
    (hq : codeAny (model prog w) (A.under (.builtin "type.__call__" ⟨.ref C :: rest, []⟩)) (.call (.ref f) ⟨.ref (h.objs.size + 1) :: rest, []⟩) (fun r s' => match r with | .ok (.ret v) => v = .none ∧ Q (.ref (h.objs.size + 1)) s' | .ok _ => False | .error e => E e s') ⟨heapE h C rest, g, d, t, os⟩) (hrest : rest.length ≤ sizeLine := by size_fits) :
    wpAny (model prog w) A (call (.ref C) rest) Q E ⟨h, g, d, t, os⟩ := by
  have f1 := tc_lookup
  have f2 := tc_bind (.ref C)
  have hT : (⟨h, g, d, t, os⟩ : Shared).TypeIs (.ref C) "type" := ⟨_, hC, rfl⟩
  refine wpAny_call (codeAny_of_tree ?_)
  show wpAny _ _ (callAny (.ref C) _) _ _ _
  repeat (any_goals (first | assumption | with_reducible refine wpAny_loadPart_at hC ?_ | wp_step))
  refine ⟨rfl, ?_⟩
  refine codeAny_call_builtin_at (Code.quiet_builtin _ (by decide +kernel)) entry_typeCall (wpAny_check_type_call_sub hC (type_call_own (hrest := hrest) Fn hBn F T hC X hi hf ?_))
  refine codeAny_mono hq fun r s' z => ?_
  cases r with
  | error e => exact z
  | ok fl => cases fl <;> exact z
end
def excN (a C : Addr) (d : Option Addr) : HO := .ext fun h => ∃ a0, h.get? a = some (exOb (.ref C) d a0 .none)
def del (H : Hp) (a : Addr) : Hp := fun b => if b = a then none else H b
def excOwn (K : PySem.W.Frag) (C f : Addr) (bmB : List Value) (newId : String) : Bool := match K.lookup C with
  | some ⟨.type "type", _, .cls cd, sl⟩ => (match cd.mro, sl.toList with
    | .ref C' :: bm, [_, _, _, _, some (.builtin n), _] => C' == C && n == newId && !cd.hasDel && PySem.W.tailIn K bmB bm && PySem.W.findIn K (.ref C) "__init__" == some (some (.ref f)) && PySem.W.isFn K (.ref f)
    | _, _ => false)
  | _ => false
set_option tactic.hygienic true in
theorem own_parts {K : PySem.W.Frag} {C f : Addr} {bmB : List Value} {newId : String} (q : excOwn K C f bmB newId = true) :
    ∃ (nm qn : Str) (N : Addr) (bs bm : List Value) (hdct : Bool) (sn : List Str) (sub : List Value) (ab : Bool) (col : Option Bool) (dd : Option Addr) (k0 k1 k2 k3 k5 : Option Value),
      K.lookup C = some (excClassObj nm qn C N bs bm hdct sn sub ab col dd k0 k1 k2 k3 k5 newId) ∧ PySem.W.tailIn K bmB bm = true ∧ PySem.W.findIn K (.ref C) "__init__" = some (some (.ref f)) ∧ PySem.W.isFn K (.ref f) = true := by
  unfold excOwn at q
  split at q
  · rename_i dd cd sl lk
    split at q
    · rename_i C' bm k0 k1 k2 k3 n k5 hm hs
      simp only [Bool.and_eq_true, beq_iff_eq, Bool.not_eq_true'] at q
      obtain ⟨⟨⟨⟨⟨e1, e2⟩, e3⟩, e4⟩, e5⟩, e6⟩ := q
      obtain ⟨nm, bs, mro, ns, qn, hd, sn, sub, ab, col, del⟩ := cd
      obtain ⟨l⟩ := sl
      simp only at hm hs e3
      subst e1 e2 e3 hm hs
      exact ⟨nm, qn, ns, bs, bm, hd, sn, sub, ab, col, dd, k0, k1, k2, k3, k5, lk, e4, e5, e6⟩
    · injection q
  · injection q
section
variable {M : Model} {A : Around} {E : Value → Shared → Prop} {env : Env} {nm q : Str} {C N : Addr} {bs bm : List Value} {hdct : Bool} {sn : List Str} {sub : List Value} {ab : Bool} {col : Option Bool} {dd : Option Addr} {k0 k1 k2 k3 k5 : Option Value} {newId : String}
end
section
variable {X : Cx} {pins : List (Addr × Obj)} {σ : St} {H : Hp} {s : Shared} {e C : Addr} {d : Option Addr}
end
section
variable {X : Cx} {E : XK} {x : Str} {C f : Addr} {fd : FuncData} {ps : List Str} {sp : Sp} {k : Nat} {e : Expr} {es : List Expr} {t : TA} {np cpos pos : Pos} {B Bn newId nid initId inN : String} {bmB bmN : List Value}
end
section
variable {X : Cx} {C f : Addr} {B newId nid initId : String} {bmB : List Value}
theorem call_init (F : ExcBaseFacts B nid initId bmB) (q : excOwn X.K C f bmB newId = true) : CallR X (.builtin initId) (fun xs H Q => ∃ a v d, xs = [.ref a, v] ∧ H a = some (excN a C d) ∧ Q .non H) := by
  intro pins s σ H xs us Q I r h
  obtain ⟨nm, qn, N, bs, bm, hdct, sn, sub, ab, col, dd, k0, k1, k2, k3, k5, lk, tl, hi, hf⟩ := own_parts q
  obtain ⟨a, v, d, rfl, hH, hq⟩ := h
  cases r with
  | cons r1 r2 =>
    cases r2 with
    | cons r2 r3 =>
      cases r3
      cases r1
      obtain ⟨a0, hob⟩ := (I.hok a _ hH).1
      have hC := I.kIn _ _ lk
      have T := PySem.W.tail_of_in I.kIn tl
      obtain ⟨hp, g, dr, tk, os⟩ := s
      have nT : hp.objs.size ≠ a := Nat.ne_of_gt (Heap.lt_size hob)
      have hob2 := Heap.get?_push_of_some (h := hp) { cls := .type "tuple", data := .seq #[b_1] } hob
      have fin : ∀ tk', EP X pins σ Q Value.none ⟨(hp.push { cls := .type "tuple", data := .seq #[b_1] }).update a (Obj.mapFields fun x => x.setIfInBounds 0 (Value.ref hp.objs.size)), g, dr, tk', os⟩ := fun tk' => by
        have J := I.kept (t' := tk) (h' := hp.push { cls := .type "tuple", data := .seq #[b_1] }) fun b o e => Heap.get?_push_of_some _ e
        have hme := Heap.get?_update_self (Obj.mapFields fun x => x.setIfInBounds 0 (Value.ref hp.objs.size)) hob2 rfl
        have J2 := J.write (x := a) (e := a) (o := excN a C d) (t' := tk') (h' := (hp.push { cls := .type "tuple", data := .seq #[b_1] }).update a (Obj.mapFields fun x => x.setIfInBounds 0 (Value.ref hp.objs.size))) (by rw [hH]; trivial) (.inl rfl)
          (fun b u hb e => by rw [Heap.get?_update_other _ _ (Ne.symm hb)]; exact e) ⟨_, hme⟩ ⟨⟨.ref hp.objs.size, hme⟩, ⟨_, hme⟩, fun h1 h3 ⟨x0, w1⟩ kk => ⟨x0, kk _ w1⟩⟩
        have e : upd H a (excN a C d) = H := by
          funext b
          by_cases hb : b = a
          · subst hb; rw [upd_same, hH]
          · rw [upd_ne hb]
        rw [e] at J2
        exact ⟨.non, H, J2, rfl, hq⟩
      refine wpAny_call (codeAny_call_builtin F.init.plain F.initEntry (wpAny_check_init_subU F T hC hob rfl ?_))
      wp_walk
      cases a0 <;> (wp_walk) <;> exact fin _
end
open PySem PySem.W PySem.Spec PySem.Calls PyProof.Rows PySem.Builtin PySem.Builtin.ObjectAttr
theorem refuse_exc (self : Value) : refuseLoop self "__setattr__" [.type "ValueError", .type "Exception", .type "BaseException", .type "object"] = pure () := by kernel_rfl
def excMro : List Value → Bool
  | .ref _ :: r => excMro r
  | l => l == [.type "ValueError", .type "Exception", .type "BaseException", .type "object"]
theorem refuse_mro (self : Value) : ∀ {l : List Value}, excMro l = true → refuseLoop self "__setattr__" l = pure () ∧ l.contains (.type "object") = true ∧ l.isEmpty = false := by
  intro l
  induction l with
  | nil => intro e; exact absurd e (by decide)
  | cons c r ih =>
    intro e
    cases c with
    | ref a =>
      obtain ⟨h1, h2, _⟩ := ih e
      exact ⟨by rw [refuseLoop_ref]; exact h1, by rw [List.contains_cons, h2, Bool.or_true], rfl⟩
    | _ =>
      have e' := beq_iff_eq.mp e
      rw [e']
      exact ⟨refuse_exc self, by decide +kernel, rfl⟩
def xsetIn (K : Frag) (C : Addr) (name : Str) : Bool := findIn K (.ref C) "__setattr__" == some (some (.builtin "object.__setattr__")) && (clsIn K C).any (fun cd => cd.hasDict && excMro cd.mro) && findIn K (.ref C) name == some none
section
variable {prog : Program} {w : World} {A : Around} {E : Value → Shared → Prop} {s : Shared} {K : Frag} {a C : Addr} {d : Option Addr} {a0 tb v : Value} {name : Str} {Q : Unit → Shared → Prop}
theorem setx_open (X : K.In s.heap) (hob : s.heap.get? a = some (exOb (.ref C) d a0 tb)) (hd : match d with | some dx => ∃ o, s.heap.get? dx = some o | none => True) (q : xsetIn K C name = true)
    (h : wpAny (model prog w) A.in1 (storeInOwnDict (.ref a) (.ref C) (.str name s.toks) name v false)
      (fun fin s' => match fin with | .done (.ret _) => Q () s' | _ => False) (fun e s' => E e s') { s with toks := s.toks + 1 }) :
    wpAny (model prog w) A (setAttr (.ref a) name v) Q E s := by
  unfold xsetIn at q
  simp only [Bool.and_eq_true, beq_iff_eq] at q
  obtain ⟨⟨hs, hc⟩, ha⟩ := q
  obtain ⟨cd, hc, ho⟩ := any_some hc
  obtain ⟨hdct, ho⟩ := Bool.and_eq_true_iff.mp ho
  obtain ⟨hrf, hcon, hne⟩ := refuse_mro (.ref a) ho
  have I : ∃ od, InstAt s.heap a (exOb (.ref C) d a0 tb) C od := by
    cases d with
    | none => exact ⟨none, hob, rfl, rfl, trivial⟩
    | some dx => obtain ⟨o, ho⟩ := hd; exact ⟨some o, hob, rfl, rfl, ho⟩
  obtain ⟨od, I⟩ := I
  refine set_plain X I hs ?_
  have SF := PySem.F.store_object
  have sub : Looks (model prog w) s.heap (isInstance (.ref a) (.type "object")) true := I.type.andThen (looks_mroIn X (by unfold mroIn; rw [hc, Option.bind_some, if_neg (by rw [hne]; decide), hcon]))
  have hm : Looks (model prog w) s.heap (mroOf (.ref C)) cd.mro := (looks_clsIn X hc).andThen .now
  refine codeAny_call_builtin SF.slot.plain SF.entry (@check_slot (model prog w) _ _ { s with toks := s.toks + 1 } "object.__setattr__" "object" "__setattr__" (.ref a) [.str name s.toks, v] [] _ SF.kind SF.split sub (SF.args (.ref a) (.str name s.toks) v) ?_)
  rw [osa_eq, refuse_eq]
  refine wpAny_bind (wpAny_bind (Looks.here (s := { s with toks := s.toks + 1 }) I.type (wpAny_bind (Looks.here (s := { s with toks := s.toks + 1 }) hm ?_))))
  rw [hrf]
  refine wpAny_pure (wpAny_bind (Looks.here (s := { s with toks := s.toks + 1 }) I.type (wpAny_bind (Looks.here (s := { s with toks := s.toks + 1 }) (looks_findIn X ha) (wpAny_bind (wpAny_pure ?_))))))
  refine wpAny_mono h (fun fin s' z => ?_) fun _ _ z => z
  rcases fin with (_ | _ | _ | _) | _ <;> first | exact z | exact z.elim
end
def excD (dx : Addr) (fs : List (Str × V)) : HO := .ext fun h => ∃ mA, h.Ns1 dx mA ∧ (∀ f, RelO (fs.lookup f) (mA f)) ∧ PySem.Within mA (fs.map (·.1))
section
variable {prog : Program} {w : World} {A : Around} {E : Value → Shared → Prop} {s : Shared} {K : Frag} {a C : Addr} {a0 tb v : Value} {name : Str} {Q : Unit → Shared → Prop}
theorem setx_new (X : K.In s.heap) (hob : s.heap.get? a = some (exOb (.ref C) none a0 tb)) (q : xsetIn K C name = true)
    (h : ∀ h', h'.get? a = some (exOb (.ref C) (some s.heap.objs.size) a0 tb) → h'.Ns1 s.heap.objs.size (fun y => if y = name then some v else none) → (∀ b o, b ≠ a → s.heap.get? b = some o → h'.get? b = some o) → Q () { s with heap := h', toks := s.toks + 2 }) :
    wpAny (model prog w) A (setAttr (.ref a) name v) Q E s := by
  refine setx_open X hob trivial q ?_
  unfold xsetIn at q
  simp only [Bool.and_eq_true, beq_iff_eq] at q
  obtain ⟨⟨_, hc⟩, _⟩ := q
  obtain ⟨cd, hc, ho⟩ := any_some hc
  obtain ⟨hdct, _⟩ := Bool.and_eq_true_iff.mp ho
  refine wpAny_bind (wpAny_pure (wpAny_bind (wpAny_bind (wpAny_loadPart hob (wpAny_bind (Looks.here (s := { s with toks := s.toks + 1 }) (looks_clsIn X hc) ?_))))))
  rw [hdct]
  have hT : s.heap.objs.size ≠ a := Nat.ne_of_gt (Heap.lt_size hob)
  have hob2 := Heap.get?_push_of_some (h := s.heap) { cls := .type "dict", data := .dict #[] } hob
  show wpAny _ _ (do let d ← alloc { cls := Value.type "dict", data := Data.dict #[] }; update a fun o => { cls := o.cls, dict := some d, data := o.data, slots := o.slots }; dictMade (.ref C) a d) _ _ _
  refine wpAny_bind (wpAny_alloc ?_)
  refine wpAny_bind (wpAny_update hob2 ?_)
  refine wpAny_pure ?_
  show wpAny _ _ (storeInDict s.heap.objs.size (Value.str name s.toks) name v) _ _ _
  refine wpAny_bind (wpAny_pure (wpAny_bind ?_))
  have hme := Heap.get?_update_self (fun o : Obj => { cls := o.cls, dict := some s.heap.objs.size, data := o.data, slots := o.slots }) hob2 rfl
  have hdn : ((s.heap.push { cls := .type "dict", data := .dict #[] }).update a fun o : Obj => { cls := o.cls, dict := some s.heap.objs.size, data := o.data, slots := o.slots }).Ns1 s.heap.objs.size (fun _ => none) := by
    refine .of_empty ⟨{ cls := .type "dict", data := .dict #[] }, #[], _, ?_, rfl, fun e he => absurd he (by simp), fun _ => rfl⟩
    rw [Heap.get?_update_other _ _ (Ne.symm hT)]
    exact Heap.get?_push_size s.heap rfl
  refine wpAny_nsSet1 (s := { s with heap := (s.heap.push { cls := .type "dict", data := .dict #[] }).update a fun o : Obj => { cls := o.cls, dict := some s.heap.objs.size, data := o.data, slots := o.slots }, toks := s.toks + 1 }) hdn fun h' hn2 hs2 => ?_
  obtain ⟨oD, esD, epD, hoD, hdD, hcD⟩ := hn2.count (PySem.Within.cons name v (ns := []) (fun g hg => absurd rfl hg))
  refine wpAny_bind (wpAny_lookBehind hoD (by rw [hdD]; exact pastItsLine_dict (Nat.le_trans hcD (by show 1 ≤ sizeLine + 1; exact Nat.succ_le_succ (Nat.zero_le _)))) ?_)
  refine wpAny_pure (h _ ((hs2.2 _ (Ne.symm hT)).trans hme) hn2 fun b o hb e => ?_)
  refine (hs2.2 b (Nat.ne_of_lt (Heap.lt_size e))).trans ?_
  rw [Heap.get?_update_other _ _ (Ne.symm hb)]
  exact Heap.get?_push_of_some _ e
theorem setx_more {dx : Addr} {mA : Str → Option Value} {ns : List Str} (X : K.In s.heap) (hob : s.heap.get? a = some (exOb (.ref C) (some dx) a0 tb)) (hn : s.heap.Ns1 dx mA) (hne : dx ≠ a) (hw : PySem.Within mA ns) (hsz : ns.length ≤ sizeLine) (q : xsetIn K C name = true)
    (h : ∀ h', h'.Ns1 dx (fun y => if y = name then some v else mA y) → Heap.SameBut dx s.heap h' → Q () { s with heap := h', toks := s.toks + 2 }) :
    wpAny (model prog w) A (setAttr (.ref a) name v) Q E s := by
  refine setx_open X hob (let ⟨o, _, _, e, _⟩ := hn; ⟨o, e⟩) q ?_
  unfold xsetIn at q
  simp only [Bool.and_eq_true, beq_iff_eq] at q
  obtain ⟨⟨_, hc⟩, _⟩ := q
  obtain ⟨cd, hc, ho⟩ := any_some hc
  obtain ⟨hdct, _⟩ := Bool.and_eq_true_iff.mp ho
  refine wpAny_bind (wpAny_pure (wpAny_bind (wpAny_bind (wpAny_loadPart hob (wpAny_bind (Looks.here (s := { s with toks := s.toks + 1 }) (looks_clsIn X hc) ?_))))))
  rw [hdct]
  refine wpAny_pure (a := some dx) (wpAny_bind (wpAny_pure (wpAny_bind ?_)))
  refine wpAny_nsSet1 (s := { s with toks := s.toks + 1 }) hn fun h' hn2 hs2 => ?_
  obtain ⟨oD, esD, epD, hoD, hdD, hcD⟩ := hn2.count (PySem.Within.cons name v hw)
  refine wpAny_bind (wpAny_lookBehind hoD (by rw [hdD]; exact pastItsLine_dict (Nat.le_trans hcD (by rw [List.length_cons]; exact Nat.succ_le_succ hsz))) ?_)
  exact wpAny_pure (h _ hn2 hs2)
end
end L2
namespace L2
open PySem PySem.Spec PyProof.Rows
section
variable {X : Cx} {C : Addr} {f : Str} {o value : Expr} {ta tv : TE} {pos pos' : Pos}
def sXf1 (C : Addr) (ta tv : TE) (f : Str) : TS := fun D σ H => tv σ H fun y H1 => ta σ H1 fun x H2 => ∃ a, x = .ref a ∧ H2 a = some (excN a C none) ∧ ∀ dx, H2 dx = none → D.nx σ (upd (upd H2 dx (excD dx [(f, y)])) a (excN a C (some dx)))
def sXf2 (C : Addr) (ta tv : TE) (f : Str) : TS := fun D σ H => tv σ H fun y H1 => ta σ H1 fun x H2 => ∃ a dx fs, x = .ref a ∧ H2 a = some (excN a C (some dx)) ∧ H2 dx = some (excD dx fs) ∧ dx ≠ a ∧ fs.length < 1000 ∧ D.nx σ (upd H2 dx (excD dx (putF f y fs)))
theorem ps_xf1 (q : xsetIn X.K C f = true) (ha : PE X o ta) (hv : PE X value tv) (hs : swapsWith value (some (.Attribute o f pos')) pos.line X.env = pure false) : PS X (.Assign [.Attribute o f pos'] value pos) (sXf1 C ta tv f) := by
  intro pins s σ H D I h
  refine plainObj_wpAny_Assign_Attribute (thn (hv pins s σ H _ I h) fun u s1 ⟨y, H1, I1, ry, q1⟩ => thn (ha pins s1 σ H1 _ I1 q1) fun ov s2 ⟨x, H2, I2, rx, a, ex, ea, q2⟩ => ?_) hs
  subst ex
  obtain rfl : ov = Value.ref a := rx
  obtain ⟨a0, hob⟩ := (I2.hok a _ ea).1
  have n0 : H2 s2.heap.objs.size = none := I2.hok.fresh (Nat.le_refl _)
  refine setx_new I2.kIn hob q fun h' ho' hn' hk' => ⟨σ, _, ?_, q2 _ n0⟩
  have na : s2.heap.objs.size ≠ a := Nat.ne_of_gt (Heap.lt_size hob)
  have hwi : PySem.Within (fun y' => if y' = f then some u else none) ([(f, y)].map (·.1)) := fun g hg => by
    by_cases z : g = f
    · rw [z]; exact List.mem_cons_self
    · exact absurd (by show (if g = f then some u else none) = none; rw [if_neg z]) hg
  have hrl : ∀ g, RelO ([(f, y)].lookup g) (if g = f then some u else none) := fun g => by
    by_cases z : g = f
    · subst z
      rw [if_pos rfl]
      show RelO (match g == g with | true => some y | false => none) (some u)
      rw [beq_self_eq_true]
      exact ry
    · rw [if_neg z]
      show RelO (match g == f with | true => some y | false => none) none
      rw [beq_eq_false_iff_ne.mpr z]
      trivial
  have okd : ∀ {Hx : Hp}, ObjOk X.prog X.w Hx h' s2.heap.objs.size (excD s2.heap.objs.size [(f, y)]) := fun {Hx} => ⟨⟨_, hn', hrl, hwi⟩, (let ⟨od, _, _, e, _⟩ := hn'; ⟨od, e⟩), fun h1 h3 ⟨mA, z1, z2, z3⟩ k => ⟨mA, z1.at k, z2, z3⟩⟩
  have oke : ∀ {Hx : Hp}, ObjOk X.prog X.w Hx h' a (excN a C (some s2.heap.objs.size)) := fun {Hx} => ⟨⟨a0, ho'⟩, ⟨_, ho'⟩, fun h1 h3 ⟨z0, z1⟩ k => ⟨z0, k _ z1⟩⟩
  refine I2.un (t' := s2.toks + 2) (h' := h') ⟨fun b ob e n hb _ => ?_, fun b ob e n hb _ => ?_, fun b ob e n _ => ?_, fun b ob e _ => ?_, fun b xs e => ?_, fun b ob w e => ?_, fun b ps e => ⟨#[], ?_⟩⟩ fun b ob e => ?_
  · exact hk' b ob (fun z => by rw [z, ea] at n; injection n) e
  · exact ⟨ob.slots, hk' b ob (fun z => by rw [z, ea] at n; injection n) e⟩
  · rw [upd_ne (fun z => by rw [z, ea] at n; injection n), upd_ne (Nat.ne_of_lt (Heap.lt_size e))]; exact n
  · by_cases z : b = a
    · rw [z]; exact ⟨_, ho'⟩
    · exact ⟨_, hk' b ob z e⟩
  · have z : b ≠ a := fun z => by rw [z, ea] at e; (injection e with e; injection e)
    rw [upd_ne z, upd_ne (ne_of_none e n0)]; exact e
  · have z : b ≠ a := fun z => by rw [z, ea] at e; (injection e with e; injection e)
    rw [upd_ne z, upd_ne (ne_of_none e n0)]; exact e
  · have z : b ≠ a := fun z => by rw [z, ea] at e; (injection e with e; injection e)
    rw [upd_ne z, upd_ne (ne_of_none e n0), e, Array.append_empty]
  · by_cases z : b = a
    · subst z; rw [upd_same] at e; (injection e with e; subst e); exact oke
    · rw [upd_ne z] at e
      by_cases z2 : b = s2.heap.objs.size
      · subst z2; rw [upd_same] at e; (injection e with e; subst e); exact okd
      · rw [upd_ne z2] at e
        refine (I2.hok b ob e).stay (fun c w hc r => hk' c w (fun zc => ?_) r) (fun c r => ?_) fun c xs r => ?_
        · rcases hc with hc | hc
          · exact z (hc ▸ zc)
          · rw [zc, ea] at hc; (injection hc with hc; injection hc)
        · have zz : c ≠ a := fun zc => by rw [zc, ea] at r; (injection r with r; injection r)
          rw [upd_ne zz, upd_ne (ne_of_none r n0)]; exact r
        · have zz : c ≠ a := fun zc => by rw [zc, ea] at r; (injection r with r; injection r)
          rw [upd_ne zz, upd_ne (ne_of_none r n0)]; exact r
theorem ps_xf2 (q : xsetIn X.K C f = true) (ha : PE X o ta) (hv : PE X value tv) (hs : swapsWith value (some (.Attribute o f pos')) pos.line X.env = pure false) : PS X (.Assign [.Attribute o f pos'] value pos) (sXf2 C ta tv f) := by
  intro pins s σ H D I h
  refine plainObj_wpAny_Assign_Attribute (thn (hv pins s σ H _ I h) fun u s1 ⟨y, H1, I1, ry, q1⟩ => thn (ha pins s1 σ H1 _ I1 q1) fun ov s2 ⟨x, H2, I2, rx, a, dx, fs, ex, ea, ed, ne, l, q2⟩ => ?_) hs
  subst ex
  obtain rfl : ov = Value.ref a := rx
  obtain ⟨a0, hob⟩ := (I2.hok a _ ea).1
  obtain ⟨mA, hn, hrl, hwi⟩ := (I2.hok dx _ ed).1
  refine setx_more I2.kIn hob hn ne hwi (by rw [List.length_map, sizeLine_eq]; exact Nat.le_trans (Nat.le_of_lt l) (by decide)) q fun h' hn' sb => ⟨σ, _, ?_, q2⟩
  have hdo : ∃ od, h'.get? dx = some od := let ⟨od, _, _, e, _⟩ := hn'; ⟨od, e⟩
  refine I2.write (x := dx) (e := dx) (t' := s2.toks + 2) (by rw [ed]; trivial) (.inl rfl) (fun b w hb z => (sb.2 b hb).trans z) hdo ⟨⟨_, hn', fun g => ?_, fun g hg => ?_⟩, hdo, fun h1 h3 ⟨mB, z1, z2, z3⟩ k => ⟨mB, z1.at k, z2, z3⟩⟩
  · show RelO ((putF f y fs).lookup g) (if g = f then some u else mA g)
    rw [lookup_putF]
    by_cases z : g = f
    · rw [if_pos z, if_pos z]; exact ry
    · rw [if_neg z, if_neg z]; exact hrl g
  · by_cases z : g = f
    · rw [z]; exact (keys_putF f y fs).1
    · refine (keys_putF f y fs).2 g (hwi g fun w => hg ?_)
      show (if g = f then some u else mA g) = none
      rw [if_neg z]; exact w
end
def PJ (X : Cx) (es : List Expr) (B : Nat) (c : St → Prop) : Prop :=
  ∀ (pins : List (Addr × Obj)) (s : Shared) (σ : St) (H : Hp) (acc : Str) (Q : Str → Shared → Prop), Inv X pins σ H s → c σ → acc.length + B ≤ sizeLine → (∀ out s', Inv X pins σ H s' → out.length ≤ sizeLine → Q out s') →
    Joins (model X.prog X.w) X.A X.xe (evalEach es X.env) acc Q s
section
variable {X : Cx} {es : List Expr} {B : Nat} {c : St → Prop} {x n : Str} {i k : Nat} {pos pos' : Pos}
theorem pj_nil : PJ X [] 0 (fun _ => True) := fun pins s σ H acc Q I _ hl h => h acc s I hl
theorem pj_str (hr : PJ X es B c) (he : evalEach (.Constant (.str x) k pos :: es) X.env = eval (.Constant (.str x) k pos) X.env :: evalEach es X.env := by rfl) : PJ X (.Constant (.str x) k pos :: es) (x.length + B) c := fun pins s σ H acc Q I hc hl h => by
  rw [he]
  refine Calls.Constant_str ⟨x, _, rfl, ?_, hr pins _ σ H (acc ++ x) Q (I.tok _) hc ?_ h⟩
  · rw [strLen_append]; omega
  · rw [strLen_append]; omega
theorem pj_int (hN : X.N[i]? = some n) (hv : Vis X.env.scope n) (hr : PJ X es B c) (hd : (n == ("__debug__" : Str)) = false := by decide) (hcd : (n == ("__classdict__" : Str)) = false := by decide)
    (he : evalEach (.FormattedValue (.Name n pos') (-1) none pos :: es) X.env = eval (.FormattedValue (.Name n pos') (-1) none pos) X.env :: evalEach es X.env := by rfl) :
    PJ X (.FormattedValue (.Name n pos') (-1) none pos :: es) (2000 + B) (fun σ => (∃ m : Int, σ[i]? = some (some (.int m)) ∧ m.natAbs.log2 < 1920) ∧ c σ) := fun pins s σ H acc Q I hc hl h => by
  obtain ⟨⟨m, hm, hb⟩, hc⟩ := hc
  rw [he]
  refine wpAny_FormattedValue_plain (thn (pe_var hN hv hd hcd pins s σ H (fun v H1 => v = .int m ∧ H1 = H) I ⟨_, hm, rfl, rfl⟩) fun u s1 ⟨v, H1, I1, rv, e1, e2⟩ => ?_)
  subst e1 e2
  obtain ⟨t, rfl⟩ := rv
  have hlen : (Str.ofString (toString m)).length ≤ 2000 := by
    have e := int_text_length_le (k := 1920) (by decide) hb
    rw [PySem.ofString_length]; omega
  refine wpAny_formatField_int hb ⟨_, _, rfl, ?_, hr pins _ σ H1 _ Q (I1.tok _) hc ?_ h⟩
  · rw [strLen_append]; omega
  · rw [strLen_append]; omega
theorem pe_words {e1 e2 : Expr} (h : PJ X (e1 :: e2 :: es) B c) (hB : B ≤ sizeLine) : PE X (.JoinedStr (e1 :: e2 :: es) pos) (fun σ H Q => c σ ∧ ∀ x, Q (.str x) H) := fun pins s σ H Q I hq => by
  refine wpAny_JoinedStr (h pins s σ H Str.empty _ I hq.1 (by show 0 + B ≤ _; rw [Nat.zero_add]; exact hB) fun out s' I' hl => ⟨hl, ?_⟩)
  exact ⟨.str out, H, I'.tok _, ⟨_, rfl⟩, hq.2 out⟩
end
section
variable {X : Cx} {C G f : Addr} {x : Str} {B newId nid initId : String} {bmB : List Value} {p apos pos : Pos} {e : Expr} {es : List Expr} {t : TA}
def baseIn (K : PySem.W.Frag) (G : Addr) (initId : String) : Bool := PySem.W.readsIn K G (.type "type") && PySem.W.specialIn K (.ref G) "__getattribute__" == some (some (.builtin "type.__getattribute__")) &&
  (match PySem.W.findCls K (.ref G) (.type "type") "__init__" with | some (.val v) => v == .builtin initId && PySem.W.handedIn v | _ => false)
def tBase (C : Addr) (t : TA) : TE := fun σ H Q => t σ H fun vs H1 => ∃ a v d, vs = [.ref a, v] ∧ H1 a = some (excN a C d) ∧ Q .non H1
set_option tactic.hygienic true in
theorem pe_base {pl : Sem Bool} (F : ExcBaseFacts B nid initId bmB) (q : excOwn X.K C f bmB newId = true) (hb : baseIn X.K G initId = true) (hg : Gl X x) (hm : X.mg x = some (.ref G)) (ha : PA X (e :: es) t)
    (hdb : (x == ("__debug__" : Str)) = false := by decide) (hst : starEach (e :: es) X.env = (false, eval e X.env) :: starEach es X.env := by rfl) (hpl : (backTo pos (starEach es X.env)).any (·.1) = false := by rfl)
    (ht : eval (.Call (.Attribute (.Name x p) "__init__" apos) (e :: es) [] pos) X.env = (do
      let ov ← eval (.Name x p) X.env
      standAt apos.atName
      let (f, first) ← holding [ov] (getMethod ov "__init__" pl)
      callWith pos f first (backTo pos (starEach (e :: es) X.env)) (backToKw pos (keywordEach [] X.env))) := by rfl) :
    PE X (.Call (.Attribute (.Name x p) "__init__" apos) (e :: es) [] pos) (tBase C t) := by
  intro pins s σ H Q I h
  unfold baseIn at hb
  simp only [Bool.and_eq_true, beq_iff_eq] at hb
  obtain ⟨⟨h1, h2⟩, h3⟩ := hb
  split at h3
  · rename_i v hv
    simp only [Bool.and_eq_true, beq_iff_eq] at h3
    obtain ⟨h3, h4⟩ := h3
    subst h3
    refine PySem.W.methodCall_KW (pl := pl) (ld_glob I hg hm ?_ hdb) ht
    refine PySem.W.method_cls I.kIn h2 (PySem.W.cls_value I.kIn h1 hv h4 ?_)
    refine PyProof.Rows.callWith_builtin1 (thn (ha pos pins _ σ H _ (I.tok _) h) fun us s1 ⟨vs, H1, I1, r1, q1⟩ => ?_) hst hpl
    exact call_init F q pins s1 σ H1 vs us Q I1 r1 q1
  · injection h3
end
open PySem PySem.W PySem.Spec PySem.Calls PyProof.Rows PySem.Builtin PySem.Builtin.ObjectAttr
def xgetIn (K : Frag) (C : Addr) (name : Str) : Bool := findIn K (.ref C) "__getattribute__" == some (some (.builtin "BaseException.__getattribute__")) && findIn K (.ref C) "__getattr__" == some none && mroIn K C (.type "BaseException") == some true && hasDictIn K C && findIn K (.ref C) name == some none
section
variable {prog : Program} {w : World} {A : Around} {E : Value → Shared → Prop} {s : Shared} {K : Frag} {a C dx : Addr} {a0 tb v : Value} {name : Str} {Q : Value → Shared → Prop} {mA : Str → Option Value} {expr : Bool}
theorem getx (X : K.In s.heap) (hob : s.heap.get? a = some (exOb (.ref C) (some dx) a0 tb)) (hn : s.heap.Ns1 dx mA) (q : xgetIn K C name = true) (hv : mA name = some v) (hv' : handedIn v = true) (h : Q v { s with toks := s.toks + 1 }) :
    wpAny (model prog w) A (getAttr (.ref a) name expr) Q E s := by
  unfold xgetIn at q
  simp only [Bool.and_eq_true, beq_iff_eq] at q
  obtain ⟨⟨⟨⟨hga, hk⟩, hbe⟩, hdc⟩, ha⟩ := q
  obtain ⟨od, ho, hl⟩ := lookIn_ns hn
  have I : InstAt s.heap a (exOb (.ref C) (some dx) a0 tb) C (some od) := ⟨hob, rfl, rfl, ho⟩
  obtain ⟨hh, g, d, t, os⟩ := s
  have L0 := I.type (M := model prog w)
  have L1 := looks_findIn (M := model prog w) X hga
  have L2 := looks_find (M := model prog w) X I (findObj_own hdc ha rfl (by rw [hl, hv]))
  have L3 := looks_findIn (M := model prog w) X hk
  have L5 := looks_mroIn (M := model prog w) X hbe
  have f3 := F.excAttr_ValueError.ga.bind (.ref a)
  have hk2 : builtinKind "BaseException.__getattribute__" = some .slot := by decide +kernel
  have hsp : splitId "BaseException.__getattribute__" = some ("BaseException", "__getattribute__") := by decide +kernel
  have hx1 : (onTheHeap (Value.ref C) && Value.builtin "BaseException.__getattribute__" == Value.builtin "object.__getattribute__") = false := by
    rw [show (Value.builtin "BaseException.__getattribute__" == Value.builtin "object.__getattribute__") = false by decide +kernel]; rfl
  unfold getAttr getAttrBy
  refine wpAny_bind (wpAny_mkText (wpAny_holding (wpAny_bind (L0.at (wpAny_bind (L1.at ?_))))))
  dsimp only
  rw [hx1, if_neg Bool.false_ne_true]
  unfold getAttrByItsOwn hookBefore
  rw [if_pos (show onTheHeap (Value.ref C) = true from rfl)]
  refine wpAny_bind (L3.at ?_)
  refine wpAny_bind (wpAny_attempt (wpAny_holding ?_))
  unfold callGetattribute
  rw [if_neg (show ¬ ((expr && onTheHeap (Value.builtin "BaseException.__getattribute__")) = true) by cases expr <;> decide)]
  unfold boundAndCalled
  refine wpAny_bind (wpAny_of_eq f3 ?_)
  show wpAny _ _ (call (.builtin "BaseException.__getattribute__") [.ref a, .str name t]) _ _ _
  have hargs := F.args_bexc_ga (.ref a) (.str name t)
  refine wpAny_call (codeAny_call_builtin F.excAttr_ValueError.ga.plain F.entry_bexc_ga ?_)
  simp only [checkBuiltinCall, hk2, hsp]
  refine wpAny_bind ?_
  unfold isInstance
  refine wpAny_bind (L0.at (L5.at ?_))
  have hid : ∃ _ : Unit, hh.get? a = some (exOb (.ref C) (some dx) a0 tb) := ⟨(), hob⟩
  clear hob
  repeat (first | assumption | wp_step)
  obtain ⟨_, hob⟩ := hid
  refine wpAny_loadPart hob ?_
  refine wpAny_pure ?_
  refine wpAny_bind (L2.at ?_)
  refine wpAny_pure ?_
  exact handed_on hv' h
end
section
variable {X : Cx} {f : Str} {e : Expr} {ta : TE} {C : Addr} {pos : Pos}
end
end L2
namespace L2
open PySem PySem.Spec PyProof.Rows
section
variable {X : Cx} {pins : List (Addr × Obj)} {σ : St} {H : Hp} {s : Shared} {h' : Heap}
theorem Inv.laidN {a : Addr} {o : HO} {t' : Nat} (I : Inv X pins σ H s) (k : ∀ b u, s.heap.get? b = some u → h'.get? b = some u) (hn : s.heap.get? a = none) (new : ObjOk X.prog X.w (upd H a o) h' a o) :
    H a = none ∧ Inv X pins σ (upd H a o) { s with heap := h', toks := t' } := by
  have n0 : H a = none := by
    cases e : H a with
    | none => rfl
    | some u =>
      obtain ⟨ob, z⟩ := (I.hok a u e).has
      rw [hn] at z; injection z
  have ne : ∀ {b u}, s.heap.get? b = some u → b ≠ a := fun {b u} e z => by rw [z, hn] at e; injection e
  refine ⟨n0, I.un (t' := t') (h' := h') ⟨fun b ob e n hb _ => k b ob e, fun b ob e n hb _ => ⟨ob.slots, k b ob e⟩, fun b ob e n _ => ?_, fun b ob e _ => ⟨ob, k b ob e⟩, fun b xs e => ?_, fun b ob w e => ?_, fun b ps e => ⟨#[], ?_⟩⟩ fun b ob e => ?_⟩
  · rw [upd_ne (ne e)]; exact n
  · rw [upd_ne (ne_of_none e n0)]; exact e
  · rw [upd_ne (ne_of_none e n0)]; exact e
  · rw [upd_ne (ne_of_none e n0), e, Array.append_empty]
  · by_cases z : b = a
    · subst z; rw [upd_same] at e; (injection e with e; subst e); exact new
    · rw [upd_ne z] at e
      refine (I.hok b ob e).stay (fun c w hc r => k c w r) (fun c r => ?_) fun c xs r => ?_
      · rw [upd_ne (ne_of_none r n0)]; exact r
      · rw [upd_ne (ne_of_none r n0)]; exact r
end
section
variable {X : Cx} {x : Str} {C f : Addr} {fd : FuncData} {ps : List Str} {sp : Sp} {k : Nat} {e : Expr} {es : List Expr} {t : TA} {p pos : Pos} {B Bn newId nid initId inN : String} {bmB bmN : List Value}
def tNewO (C : Addr) (sp : Sp) (t : TA) : TE := fun σ H Q => t σ H fun vs H1 => vs.length ≤ sizeLine ∧ ∀ a, H1 a = none → sp (.ref a :: vs) (upd H1 a (excN a C none)) (fun v H2 => v = .non ∧ Q (.ref a) H2) E0
theorem pe_newO (hg : Gl X x) (hm : X.mg x = some (.ref C)) (hk : PySem.W.keepIn X.K (.ref C) = true) (hr : Room (k + 1) X.A) (q : excOwn X.K C f bmB newId = true) (Fn : ExcBaseFacts Bn newId inN bmN) (hBn : bmB.contains (.type Bn) = true) (F : ExcBaseFacts B nid initId bmB)
    (Fi : FnOk X.prog X.w X.K X.mg X.base CX0 k f fd ps sp) (hb : Binds X.K fd ps [])
    (ha : PA X (e :: es) t) (hdb : (x == ("__debug__" : Str)) = false := by decide) (he : starEach (e :: es) X.env = (false, eval e X.env) :: starEach es X.env := by rfl) (hpl : (backTo pos (starEach es X.env)).any (·.1) = false := by rfl) :
    PE X (.Call (.Name x p) (e :: es) [] pos) (tNewO C sp t) := by
  intro pins s σ H Q I h
  obtain ⟨nm, qn, N, bs, bm, hdct, sn, sub, ab, col, dd, k0, k1, k2, k3, k5, lk, tl, hi, hf⟩ := own_parts q
  refine wpAny_Call_Name_kw (ld_glob I hg hm ?_ hdb)
  refine PySem.W.callWith_K (h₀ := X.base) I.ok.mod.kin hk (thn (ha pos pins s σ H _ I h) fun us s1 ⟨vs, H1, I1, r, z, q1⟩ => ⟨I1.kIn, ?_⟩) he hpl
  obtain ⟨hp, g, dr, tk, os⟩ := s1
  have hC := I1.kIn _ _ lk
  have hlu : us.length ≤ sizeLine := by rw [← r.length]; exact z
  have n0 : H1 (hp.objs.size + 1) = none := I1.hok.fresh (Nat.le_succ _)
  have hget : (heapE hp C us).get? (hp.objs.size + 1) = some (exOb (.ref C) none (.ref hp.objs.size) .none) := by heap_get
  have I2 : Inv X pins σ (upd H1 (hp.objs.size + 1) (excN (hp.objs.size + 1) C none)) ⟨heapE hp C us, g, dr, tk, os⟩ := by
    have J := I1.kept (t' := tk) (h' := hp.push { cls := .type "tuple", data := .seq us.toArray }) fun b o e => Heap.get?_push_of_some _ e
    refine J.laid (t' := tk) (h' := heapE hp C us) (fun b o e => Heap.get?_push_of_some _ e) (by show (hp.push _).objs.size ≤ _; rw [Heap.size_push]; exact Nat.le_refl _) ?_
    exact ⟨⟨_, hget⟩, ⟨_, hget⟩, fun h1 h3 ⟨x0, w1⟩ kk => ⟨x0, kk _ w1⟩⟩
  have r2 : Vals (V.ref (hp.objs.size + 1) :: vs) (Value.ref (hp.objs.size + 1) :: us) := .cons rfl r
  have hsp := q1 (hp.objs.size + 1) n0
  have hl : (Value.ref (hp.objs.size + 1) :: us).length = ps.length := by rw [← r2.length]; exact Fi.len _ _ _ _ hsp
  have hbt : BindsTo ⟨heapE hp C us, g, dr, tk, os⟩ fd ⟨Value.ref (hp.objs.size + 1) :: us, []⟩ (ps.zip (Value.ref (hp.objs.size + 1) :: us)) := by
    have := hb ⟨heapE hp C us, g, dr, tk, os⟩ (Value.ref (hp.objs.size + 1) :: us) I2.kIn (by rw [List.append_nil]; exact hl)
    rw [List.append_nil] at this; exact this
  refine call_own (hrest := hlu) Fn hBn F (PySem.W.tail_of_in I1.kIn tl) hC I1.kIn hi (beq_iff_eq.mp hf) (codeAny_mono (Fi.run _ X.stack _ _ ⟨Value.ref (hp.objs.size + 1) :: us, []⟩ (Value.ref (hp.objs.size + 1) :: us) _ _ E0 (hr.make C us []) (I2.env0.make C us []) hbt r2 hsp) fun rr s' hq' => ?_)
  cases rr with
  | error e => exact hq'.elim
  | ok fl =>
    cases fl with
    | ret u =>
      obtain ⟨v, H3, I3, rv, ev, hQ⟩ := I2.after hq'
      subst ev
      exact ⟨rv, ⟨V.ref (hp.objs.size + 1), H3, I3, rfl, hQ⟩⟩
    | next => exact False.elim hq'
    | brk => exact False.elim hq'
    | cont => exact False.elim hq'
def tNewP (C : Addr) (t : TA) : TE := fun σ H Q => t σ H fun vs H1 => vs.length ≤ sizeLine ∧ ∀ a, H1 a = none → Q (.ref a) (upd H1 a (excN a C none))
theorem new_plain (q : PySem.W.excIn X.K C bmB newId = true) (Fn : ExcBaseFacts Bn newId inN bmN) (hBn : bmB.contains (.type Bn) = true) (F : ExcBaseFacts B nid initId bmB) {pins : List (Addr × Obj)} {σ : St} {H : Hp} {s : Shared} {Q : VK} {us : List Value}
    (I : Inv X pins σ H s) (hl : us.length ≤ sizeLine) (h : ∀ a, H a = none → Q (.ref a) (upd H a (excN a C none))) : wpAny (model X.prog X.w) X.A (call (.ref C) us) (EP X pins σ Q) X.xe s := by
  obtain ⟨nm, qn, N, bs, bm, hdct, sn, sub, ab, col, dd, k0, k1, k2, k3, k5, lk, tl, hok, hni⟩ := exc_parts q
  have kb := I.ok.mod.kin
  have hN : X.base.Ns N (X.base.nsMap N) := .of_isNs (PySem.W.isNs_of_in kb hok)
  obtain ⟨hp, g, dr, tk, os⟩ := s
  refine wpAny_call_exc_subU (hrest := hl) Fn hBn F (PySem.W.tail_of_in I.kIn tl) (I.kIn _ _ lk) (hN.keeps I.bk) (PySem.W.nsMap_none_of_in kb hok hni) fun h' e md => ?_
  obtain ⟨t, ht, _, _⟩ := md.there
  obtain ⟨n0, I2⟩ := I.laidN (t' := tk) (h' := h') (a := e) (o := excN e C none) md.keeps md.new ⟨⟨_, ht⟩, ⟨_, ht⟩, fun h1 h3 ⟨x0, w1⟩ kk => ⟨x0, kk _ w1⟩⟩
  exact ⟨.ref e, _, I2, rfl, h e n0⟩
theorem pe_newP (hg : Gl X x) (hm : X.mg x = some (.ref C)) (hk : PySem.W.keepIn X.K (.ref C) = true) (q : PySem.W.excIn X.K C bmB newId = true) (Fn : ExcBaseFacts Bn newId inN bmN) (hBn : bmB.contains (.type Bn) = true) (F : ExcBaseFacts B nid initId bmB)
    (ha : PA X (e :: es) t) (hdb : (x == ("__debug__" : Str)) = false := by decide) (he : starEach (e :: es) X.env = (false, eval e X.env) :: starEach es X.env := by rfl) (hpl : (backTo pos (starEach es X.env)).any (·.1) = false := by rfl) :
    PE X (.Call (.Name x p) (e :: es) [] pos) (tNewP C t) := by
  intro pins s σ H Q I h
  refine wpAny_Call_Name_kw (ld_glob I hg hm ?_ hdb)
  exact PySem.W.callWith_K (h₀ := X.base) I.ok.mod.kin hk (thn (ha pos pins s σ H _ I h) fun us s1 ⟨vs, H1, I1, r, z, q1⟩ => ⟨I1.kIn, new_plain q Fn hBn F I1 (by rw [List.nil_append, ← r.length]; exact z) q1⟩) he hpl
theorem pe_newP0 (hg : Gl X x) (hm : X.mg x = some (.ref C)) (hk : PySem.W.keepIn X.K (.ref C) = true) (q : PySem.W.excIn X.K C bmB newId = true) (Fn : ExcBaseFacts Bn newId inN bmN) (hBn : bmB.contains (.type Bn) = true) (F : ExcBaseFacts B nid initId bmB)
    (hdb : (x == ("__debug__" : Str)) = false := by decide) : PE X (.Call (.Name x p) [] [] pos) (tNewP C tNil) := by
  intro pins s σ H Q I h
  refine wpAny_Call_Name_kw (ld_glob I hg hm ?_ hdb)
  exact PySem.W.callWith_K0 I.kIn hk (new_plain (us := []) q Fn hBn F I (Nat.zero_le _) h.2)
theorem excN_at {P : Program} {w : World} {H : Hp} {h : Heap} {a : Addr} {d : Option Addr} (x : ObjOk P w H h a (excN a C d)) : XAt a C h := by
  obtain ⟨⟨a0, hob⟩, _⟩ := x
  exact ⟨_, hob, rfl, rfl⟩
theorem call_isN {cv : Value} {c : V} (hr : ∀ u, RelV c u → u = cv) : CallR X (.builtin "isinstance") (fun xs H Q => ∃ a C d b, xs = [.ref a, c] ∧ H a = some (excN a C d) ∧ xcHead X.K C = true ∧ PySem.W.kitOne X.K (.ref C) cv = some b ∧ Q (.bl b) H) := by
  intro pins s σ H xs us Q I r h
  obtain ⟨a, C, d, b, rfl, hH, hd, hq, q⟩ := h
  cases r with
  | cons r1 r2 =>
    cases r2 with
    | cons r2 r3 =>
      cases r3
      cases r1
      cases hr _ r2
      exact PySem.W.kia_one (kitx_exc hd) I.kIn (excN_at (I.hok a _ hH)) hq (fun z => by injection z) fun tk => ⟨.bl b, H, I.tok tk, rfl, q⟩
end
end L2
namespace Vi
open PySem L2
inductive TC (H : Hp) (Q : List V → List Addr → Prop) (v : V) (fp : List Addr) : Prop
  | mk (a : Addr) (vs : List V) (e : v = .ref a) (ha : H a = some (.tup vs)) (r : Q vs fp)
inductive SC (H : Hp) (Q : List V → List Addr → Prop) (v : V) (fp : List Addr) : Prop
  | mk (a : Addr) (vs : List V) (f : List Addr) (e : v = .ref a) (ef : fp = a :: f) (r : Q vs f) (h : H a = some (.lst vs) ∨ ∃ o, H a = some (.frz o (.lst vs)))
inductive MC (H : Hp) (ks : List Key) (Q : List V → List Addr → Prop) (v : V) (fp : List Addr) : Prop
  | mk (a : Addr) (f : List Addr) (kvs : List (Key × V)) (e : v = .ref a) (ef : fp = a :: f) (ha : Rd H a (.dK kvs)) (hk : ks = kvs.map (·.1)) (r : Q (kvs.map (·.2)) f)
inductive UC (H : Hp) (ks : List (List Key)) (Q : List V → List Addr → Prop) (v : V) (fp : List Addr) : Prop
  | mk (a : Addr) (f : List Addr) (kvs : List (List Key × V)) (e : v = .ref a) (ef : fp = a :: f) (ha : H a = some (.dT kvs)) (hk : ks = kvs.map (·.1)) (r : Q (kvs.map (·.2)) f)
inductive OC (H : Hp) (C : Addr) (ks : List Str) (Q : List V → List Addr → Prop) (v : V) (fp : List Addr) : Prop
  | ex (a dx : Addr) (f : List Addr) (gs : List (Str × V)) (e : v = .ref a) (ef : fp = a :: dx :: f) (ha : H a = some (excN a C (some dx))) (hd : H dx = some (excD dx gs)) (ne : dx ≠ a) (hn : ks = gs.map (·.1)) (r : Q (gs.map (·.2)) f)
  | e0 (a : Addr) (e : v = .ref a) (ef : fp = [a]) (ha : H a = some (excN a C none)) (hn : ks = []) (r : Q [] [])
inductive LC (P : V → List Addr → Prop) (Q : List V → List Addr → Prop) (vs : List V) (fp : List Addr) : Prop
  | mk (v : V) (vr : List V) (f g : List Addr) (e : vs = v :: vr) (ef : fp = f ++ g) (h1 : P v f) (h2 : Q vr g)
mutual
def Rep (cl : Nat → Addr) (H : Hp) : D → V → List Addr → Prop
  | .non, v, fp => v = .non ∧ fp = []
  | .bl b, v, fp => v = .bl b ∧ fp = []
  | .int i, v, fp => v = .int i ∧ fp = []
  | .str x, v, fp => v = .str x ∧ fp = []
  | .tup l, v, fp => TC H (RepL cl H l) v fp
  | .lst l, v, fp => SC H (RepL cl H l) v fp
  | .dK l, v, fp => MC H (l.map (·.1)) (RepM cl H l) v fp
  | .dT l, v, fp => UC H (l.map (·.1)) (RepT cl H l) v fp
  | .obj c fs, v, fp => OC H (cl c) (fs.map (·.1)) (RepF cl H fs) v fp
def RepL (cl : Nat → Addr) (H : Hp) : List D → List V → List Addr → Prop
  | [], vs, fp => vs = [] ∧ fp = []
  | d :: r, vs, fp => LC (Rep cl H d) (RepL cl H r) vs fp
def RepM (cl : Nat → Addr) (H : Hp) : List (Key × D) → List V → List Addr → Prop
  | [], vs, fp => vs = [] ∧ fp = []
  | (_, d) :: r, vs, fp => LC (Rep cl H d) (RepM cl H r) vs fp
def RepT (cl : Nat → Addr) (H : Hp) : List (List Key × D) → List V → List Addr → Prop
  | [], vs, fp => vs = [] ∧ fp = []
  | (_, d) :: r, vs, fp => LC (Rep cl H d) (RepT cl H r) vs fp
def RepF (cl : Nat → Addr) (H : Hp) : List (Str × D) → List V → List Addr → Prop
  | [], vs, fp => vs = [] ∧ fp = []
  | (_, d) :: r, vs, fp => LC (Rep cl H d) (RepF cl H r) vs fp
end
structure Keep (fp : List Addr) (H H' : Hp) : Prop where
  at_ : ∀ a ∈ fp, H' a = H a
  tup : ∀ a vs, H a = some (.tup vs) → H' a = some (.tup vs)
def Like (x y : Option HO) : Prop := y = x ∨ ∃ o kvs, (x = some (.dK kvs) ∧ y = some (.frz o (.dK kvs))) ∨ (x = some (.frz o (.dK kvs)) ∧ y = some (.dK kvs))
theorem Like.keep {x y : Option HO} {u : HO} (h : Like x y) (hx : x = some u) (n1 : ∀ kvs, u ≠ .dK kvs) (n2 : ∀ o v, u ≠ .frz o v) : y = some u := by
  rcases h with h | ⟨o, kvs, ⟨h, _⟩ | ⟨h, _⟩⟩
  · rw [h, hx]
  · rw [hx] at h; exact absurd (Option.some.inj h) (n1 kvs)
  · rw [hx] at h; exact absurd (Option.some.inj h) (n2 o _)
theorem Like.lst {H H' : Hp} {a : Addr} {vs : List V} (h : Like (H a) (H' a)) (hx : H a = some (.lst vs) ∨ ∃ o, H a = some (.frz o (.lst vs))) : H' a = some (.lst vs) ∨ ∃ o, H' a = some (.frz o (.lst vs)) := by
  rcases h with h | ⟨o, kvs, ⟨h, _⟩ | ⟨h, _⟩⟩
  · rw [h]; exact hx
  · rw [h] at hx; rcases hx with z | ⟨_, z⟩ <;> (injection z with z; injection z)
  · rw [h] at hx; rcases hx with z | ⟨_, z⟩ <;> cases z
theorem Like.dK {H H' : Hp} {a : Addr} {kvs : List (Key × V)} (h : Like (H a) (H' a)) (hx : Rd H a (.dK kvs)) : Rd H' a (.dK kvs) := by
  unfold Rd at hx ⊢
  rcases h with h | ⟨o, ws, ⟨h, h'⟩ | ⟨h, h'⟩⟩
  · rw [h]; exact hx
  · rw [h] at hx
    rcases hx with z | ⟨_, z⟩
    · (injection z with z; injection z with z; subst z); exact .inr ⟨o, h'⟩
    · (injection z with z; injection z)
  · rw [h] at hx
    rcases hx with z | ⟨_, z⟩
    · (injection z with z; injection z)
    · cases z; exact .inl h'
structure KeepL (fp : List Addr) (H H' : Hp) : Prop where
  at_ : ∀ a ∈ fp, Like (H a) (H' a)
  tup : ∀ a vs, H a = some (.tup vs) → H' a = some (.tup vs)
theorem KeepL.sub {fp g : List Addr} {H H' : Hp} (k : KeepL fp H H') (h : ∀ a ∈ g, a ∈ fp) : KeepL g H H' := ⟨fun a ha => k.at_ a (h a ha), k.tup⟩
theorem Keep.l {fp : List Addr} {H H' : Hp} (k : Keep fp H H') : KeepL fp H H' := ⟨fun a ha => .inl (k.at_ a ha), k.tup⟩
mutual
theorem Rep.keepL {cl : Nat → Addr} {H H' : Hp} : ∀ {d : D} {v : V} {fp : List Addr}, Rep cl H d v fp → KeepL fp H H' → Rep cl H' d v fp
  | .non, _, _, h, _ => h
  | .bl _, _, _, h, _ => h
  | .int _, _, _, h, _ => h
  | .str _, _, _, h, _ => h
  | .tup l, v, fp, h, k => by
    unfold Rep at h ⊢
    obtain ⟨a, vs, e, ha, r⟩ := h
    exact ⟨a, vs, e, k.tup a vs ha, RepL.keepL r k⟩
  | .lst l, v, fp, h, k => by
    unfold Rep at h ⊢
    obtain ⟨a, vs, f, e, ef, r, h⟩ := h
    subst ef
    refine ⟨a, vs, f, e, rfl, RepL.keepL r (k.sub fun b hb => List.mem_cons_of_mem _ hb), ?_⟩
    exact (k.at_ a List.mem_cons_self).lst h
  | .dK l, v, fp, h, k => by
    unfold Rep at h ⊢
    obtain ⟨a, f, kvs, e, ef, ha, hk, r⟩ := h
    subst ef
    exact ⟨a, f, kvs, e, rfl, (k.at_ a List.mem_cons_self).dK ha, hk, RepM.keepL r (k.sub fun b hb => List.mem_cons_of_mem _ hb)⟩
  | .dT l, v, fp, h, k => by
    unfold Rep at h ⊢
    obtain ⟨a, f, kvs, e, ef, ha, hk, r⟩ := h
    subst ef
    exact ⟨a, f, kvs, e, rfl, (k.at_ a List.mem_cons_self).keep ha (fun _ z => nomatch z) (fun _ _ z => nomatch z), hk, RepT.keepL r (k.sub fun b hb => List.mem_cons_of_mem _ hb)⟩
  | .obj c fs, v, fp, h, k => by
    unfold Rep at h ⊢
    rcases h with ⟨a, dx, f, gs, e, ef, ha, hd, ne, hn, r⟩ | ⟨a, e, ef, ha, hn, r⟩
    · subst ef
      exact .ex a dx f gs e rfl ((k.at_ a List.mem_cons_self).keep ha (fun _ z => nomatch z) (fun _ _ z => nomatch z)) ((k.at_ dx (List.mem_cons_of_mem _ List.mem_cons_self)).keep hd (fun _ z => nomatch z) (fun _ _ z => nomatch z)) ne hn (RepF.keepL r (k.sub fun b hb => List.mem_cons_of_mem _ (List.mem_cons_of_mem _ hb)))
    · subst ef
      exact .e0 a e rfl ((k.at_ a List.mem_cons_self).keep ha (fun _ z => nomatch z) (fun _ _ z => nomatch z)) hn (RepF.keepL r (k.sub fun b hb => nomatch hb))
theorem RepL.keepL {cl : Nat → Addr} {H H' : Hp} : ∀ {l : List D} {vs : List V} {fp : List Addr}, RepL cl H l vs fp → KeepL fp H H' → RepL cl H' l vs fp
  | [], _, _, h, _ => h
  | d :: r, vs, fp, h, k => by
    unfold RepL at h ⊢
    obtain ⟨v, vr, f, g, e, ef, h1, h2⟩ := h
    subst ef
    exact ⟨v, vr, f, g, e, rfl, Rep.keepL h1 (k.sub fun b hb => List.mem_append_left _ hb), RepL.keepL h2 (k.sub fun b hb => List.mem_append_right _ hb)⟩
theorem RepM.keepL {cl : Nat → Addr} {H H' : Hp} : ∀ {l : List (Key × D)} {vs : List V} {fp : List Addr}, RepM cl H l vs fp → KeepL fp H H' → RepM cl H' l vs fp
  | [], _, _, h, _ => h
  | (q, d) :: r, vs, fp, h, k => by
    unfold RepM at h ⊢
    obtain ⟨v, vr, f, g, e, ef, h1, h2⟩ := h
    subst ef
    exact ⟨v, vr, f, g, e, rfl, Rep.keepL h1 (k.sub fun b hb => List.mem_append_left _ hb), RepM.keepL h2 (k.sub fun b hb => List.mem_append_right _ hb)⟩
theorem RepT.keepL {cl : Nat → Addr} {H H' : Hp} : ∀ {l : List (List Key × D)} {vs : List V} {fp : List Addr}, RepT cl H l vs fp → KeepL fp H H' → RepT cl H' l vs fp
  | [], _, _, h, _ => h
  | (q, d) :: r, vs, fp, h, k => by
    unfold RepT at h ⊢
    obtain ⟨v, vr, f, g, e, ef, h1, h2⟩ := h
    subst ef
    exact ⟨v, vr, f, g, e, rfl, Rep.keepL h1 (k.sub fun b hb => List.mem_append_left _ hb), RepT.keepL h2 (k.sub fun b hb => List.mem_append_right _ hb)⟩
theorem RepF.keepL {cl : Nat → Addr} {H H' : Hp} : ∀ {l : List (Str × D)} {vs : List V} {fp : List Addr}, RepF cl H l vs fp → KeepL fp H H' → RepF cl H' l vs fp
  | [], _, _, h, _ => h
  | (q, d) :: r, vs, fp, h, k => by
    unfold RepF at h ⊢
    obtain ⟨v, vr, f, g, e, ef, h1, h2⟩ := h
    subst ef
    exact ⟨v, vr, f, g, e, rfl, Rep.keepL h1 (k.sub fun b hb => List.mem_append_left _ hb), RepF.keepL h2 (k.sub fun b hb => List.mem_append_right _ hb)⟩
end
theorem Rep.keep {cl : Nat → Addr} {H H' : Hp} {d : D} {v : V} {fp : List Addr} (h : Rep cl H d v fp) (k : Keep fp H H') : Rep cl H' d v fp := h.keepL k.l
theorem RepL.keep {cl : Nat → Addr} {H H' : Hp} {l : List D} {vs : List V} {fp : List Addr} (h : RepL cl H l vs fp) (k : Keep fp H H') : RepL cl H' l vs fp := h.keepL k.l
def Own (x : Option HO) : Prop := x ≠ none ∧ ∀ vs, x ≠ some (.tup vs)
theorem Own.of {x : Option HO} {o : HO} (h : x = some o) (n : ∀ vs, o ≠ .tup vs) : Own x := ⟨fun z => (nomatch h.symm.trans z), fun vs z => n vs (Option.some.inj (h.symm.trans z))⟩
theorem Own.nil {H : Hp} {fp : List Addr} (h : fp = []) : ∀ a ∈ fp, Own (H a) := fun a ha => absurd (h ▸ ha) List.not_mem_nil
theorem Own.cons {H : Hp} {a : Addr} {fp g : List Addr} (e : fp = a :: g) (h : Own (H a)) (k : ∀ b ∈ g, Own (H b)) : ∀ b ∈ fp, Own (H b) := e ▸ List.forall_mem_cons.mpr ⟨h, k⟩
theorem Own.app {H : Hp} {fp f g : List Addr} (e : fp = f ++ g) (h : ∀ b ∈ f, Own (H b)) (k : ∀ b ∈ g, Own (H b)) : ∀ b ∈ fp, Own (H b) := e ▸ List.forall_mem_append.mpr ⟨h, k⟩
theorem Own.two {α : Type} {x : Option HO} {y : HO} {f : α → HO} (h : x = some y ∨ ∃ o, x = some (f o)) (n : ∀ vs, y ≠ .tup vs) (m : ∀ o vs, f o ≠ .tup vs) : Own x := h.elim (fun z => Own.of z n) fun ⟨o, z⟩ => Own.of z (m o)
mutual
theorem Rep.own {cl : Nat → Addr} {H : Hp} : ∀ {d : D} {v : V} {fp : List Addr}, Rep cl H d v fp → ∀ a ∈ fp, Own (H a)
  | .non, _, _, h => Own.nil h.2
  | .bl _, _, _, h => Own.nil h.2
  | .int _, _, _, h => Own.nil h.2
  | .str _, _, _, h => Own.nil h.2
  | .tup l, v, fp, h => by
    obtain ⟨a, vs, e, ha, r⟩ := h
    exact RepL.own r
  | .lst l, v, fp, h => by
    obtain ⟨a, vs, f, e, ef, r, h⟩ := h
    exact Own.cons ef (Own.two h (fun _ z => nomatch z) (fun _ _ z => nomatch z)) (RepL.own r)
  | .dK l, v, fp, h => by
    obtain ⟨a, f, kvs, e, ef, ha, hk, r⟩ := h
    exact Own.cons ef (Own.two ha (fun _ z => nomatch z) (fun _ _ z => nomatch z)) (RepM.own r)
  | .dT l, v, fp, h => by
    obtain ⟨a, f, kvs, e, ef, ha, hk, r⟩ := h
    exact Own.cons ef (Own.of ha (fun _ z => nomatch z)) (RepT.own r)
  | .obj c fs, v, fp, h => by
    rcases h with ⟨a, dx, f, gs, e, ef, ha, hd, ne, hn, r⟩ | ⟨a, e, ef, ha, hn, r⟩
    · exact Own.cons ef (Own.of ha (fun _ z => nomatch z)) (Own.cons rfl (Own.of hd (fun _ z => nomatch z)) (RepF.own r))
    · exact Own.cons ef (Own.of ha (fun _ z => nomatch z)) fun _ z => nomatch z
theorem RepL.own {cl : Nat → Addr} {H : Hp} : ∀ {l : List D} {vs : List V} {fp : List Addr}, RepL cl H l vs fp → ∀ a ∈ fp, Own (H a)
  | [], _, _, h => Own.nil (by unfold RepL at h; exact h.2)
  | d :: r, vs, fp, h => by
    obtain ⟨v, vr, f, g, e, ef, h1, h2⟩ := h
    exact Own.app ef (Rep.own h1) (RepL.own h2)
theorem RepM.own {cl : Nat → Addr} {H : Hp} : ∀ {l : List (Key × D)} {vs : List V} {fp : List Addr}, RepM cl H l vs fp → ∀ a ∈ fp, Own (H a)
  | [], _, _, h => Own.nil (by unfold RepM at h; exact h.2)
  | (q, d) :: r, vs, fp, h => by
    obtain ⟨v, vr, f, g, e, ef, h1, h2⟩ := h
    exact Own.app ef (Rep.own h1) (RepM.own h2)
theorem RepT.own {cl : Nat → Addr} {H : Hp} : ∀ {l : List (List Key × D)} {vs : List V} {fp : List Addr}, RepT cl H l vs fp → ∀ a ∈ fp, Own (H a)
  | [], _, _, h => Own.nil (by unfold RepT at h; exact h.2)
  | (q, d) :: r, vs, fp, h => by
    obtain ⟨v, vr, f, g, e, ef, h1, h2⟩ := h
    exact Own.app ef (Rep.own h1) (RepT.own h2)
theorem RepF.own {cl : Nat → Addr} {H : Hp} : ∀ {l : List (Str × D)} {vs : List V} {fp : List Addr}, RepF cl H l vs fp → ∀ a ∈ fp, Own (H a)
  | [], _, _, h => Own.nil (by unfold RepF at h; exact h.2)
  | (q, d) :: r, vs, fp, h => by
    obtain ⟨v, vr, f, g, e, ef, h1, h2⟩ := h
    exact Own.app ef (Rep.own h1) (RepF.own h2)
end
theorem Rep.dom {cl : Nat → Addr} {H : Hp} {d : D} {v : V} {fp : List Addr} (h : Rep cl H d v fp) : ∀ a ∈ fp, H a ≠ none := fun a ha => (h.own a ha).1
theorem Rep.notup {cl : Nat → Addr} {H : Hp} {d : D} {v : V} {fp : List Addr} (h : Rep cl H d v fp) : ∀ a ∈ fp, ∀ vs, H a ≠ some (.tup vs) := fun a ha => (h.own a ha).2
theorem RepL.dom {cl : Nat → Addr} {H : Hp} {d : List D} {v : List V} {fp : List Addr} (h : RepL cl H d v fp) : ∀ a ∈ fp, H a ≠ none := fun a ha => (h.own a ha).1
mutual
theorem Rep.imm {cl : Nat → Addr} {H : Hp} : ∀ {d : D} {v : V} {fp : List Addr}, Rep cl H d v fp → d.imm = true → fp = []
  | .non, _, _, h, _ => h.2
  | .bl _, _, _, h, _ => h.2
  | .int _, _, _, h, _ => h.2
  | .str _, _, _, h, _ => h.2
  | .tup l, v, fp, h, k => by
    obtain ⟨a, vs, e, ha, r⟩ := h
    exact RepL.imm r k
  | .lst _, _, _, _, k => by simp [D.imm] at k
  | .dK _, _, _, _, k => by simp [D.imm] at k
  | .dT _, _, _, _, k => by simp [D.imm] at k
  | .obj _ _, _, _, _, k => by simp [D.imm] at k
theorem RepL.imm {cl : Nat → Addr} {H : Hp} : ∀ {l : List D} {vs : List V} {fp : List Addr}, RepL cl H l vs fp → immL l = true → fp = []
  | [], _, _, h, _ => h.2
  | d :: r, vs, fp, h, k => by
    obtain ⟨v, vr, f, g, e, ef, h1, h2⟩ := h
    have k' : d.imm = true ∧ immL r = true := by simpa [immL] using k
    rw [ef, Rep.imm h1 k'.1, RepL.imm h2 k'.2]
    rfl
end
theorem Keep.same {fp : List Addr} {H H' : Hp} (s : Same H H') (h : ∀ a ∈ fp, H a ≠ none) : Keep fp H H' := ⟨fun a ha => by
  cases q : H a with
  | none => exact absurd q (h a ha)
  | some o => exact s a o q, fun a vs e => s a _ e⟩
theorem Rep.same {cl : Nat → Addr} {H H' : Hp} {d : D} {v : V} {fp : List Addr} (h : Rep cl H d v fp) (s : Same H H') : Rep cl H' d v fp := h.keep (Keep.same s h.dom)
theorem RepL.same {cl : Nat → Addr} {H H' : Hp} {d : List D} {v : List V} {fp : List Addr} (h : RepL cl H d v fp) (s : Same H H') : RepL cl H' d v fp := h.keep (Keep.same s h.dom)
theorem RepL.len {cl : Nat → Addr} {H : Hp} : ∀ {l : List D} {vs : List V} {fp : List Addr}, RepL cl H l vs fp → vs.length = l.length := by
  intro x_0
  induction x_0 with
  | nil =>
    intro _ _ h
    unfold RepL at h; rw [h.1]; rfl
  | cons d r ih_ =>
    intro vs fp h
    obtain ⟨v, vr, f, g, e, ef, h1, h2⟩ := h
    rw [e, List.length_cons, List.length_cons, ih_ h2]
theorem Same.new {H : Hp} {a : Addr} {o : HO} (h : H a = none) : Same H (upd H a o) := fun b u e => by
  rw [upd_ne (ne_of_none e h)]
  exact e
theorem LC.imp {P : V → List Addr → Prop} {Q Q' : List V → List Addr → Prop} {vs : List V} {fp : List Addr} (h : LC P Q vs fp) (q : ∀ {vs fp}, Q vs fp → Q' vs fp) : LC P Q' vs fp := by
  obtain ⟨v, vr, f, g, e, ef, h1, h2⟩ := h
  exact ⟨v, vr, f, g, e, ef, h1, q h2⟩
theorem RepM.l {cl : Nat → Addr} {H : Hp} : ∀ {l : List (Key × D)} {vs : List V} {fp : List Addr}, RepM cl H l vs fp ↔ RepL cl H (l.map (·.2)) vs fp := by
  intro l
  induction l with
  | nil => intro vs fp; exact Iff.rfl
  | cons p r ih => intro vs fp; exact ⟨fun h => LC.imp h ih.mp, fun h => LC.imp h ih.mpr⟩
theorem RepT.l {cl : Nat → Addr} {H : Hp} : ∀ {l : List (List Key × D)} {vs : List V} {fp : List Addr}, RepT cl H l vs fp ↔ RepL cl H (l.map (·.2)) vs fp := by
  intro l
  induction l with
  | nil => intro vs fp; exact Iff.rfl
  | cons p r ih => intro vs fp; exact ⟨fun h => LC.imp h ih.mp, fun h => LC.imp h ih.mpr⟩
theorem RepF.l {cl : Nat → Addr} {H : Hp} : ∀ {l : List (Str × D)} {vs : List V} {fp : List Addr}, RepF cl H l vs fp ↔ RepL cl H (l.map (·.2)) vs fp := by
  intro l
  induction l with
  | nil => intro vs fp; exact Iff.rfl
  | cons p r ih => intro vs fp; exact ⟨fun h => LC.imp h ih.mp, fun h => LC.imp h ih.mpr⟩
def NF (H : Hp) (a : Addr) : Prop := ∀ o u, H a ≠ some (.frz o u)
theorem NF.same {H H' : Hp} {a : Addr} (h : NF H a) (s : Same H H') (d : H a ≠ none) : NF H' a := fun o u e => by
  cases q : H a with
  | none => exact d q
  | some x =>
    have := s a x q
    rw [e] at this
    (injection this with this; subst this)
    exact h o u q
structure SOK (cl : Nat → Addr) (H0 : Hp) (ρ : Env) (F : Nat → List Addr) (σ : St) (H : Hp) : Prop where
  same : Same H0 H
  len : σ.length = ρ.length
  rep : ∀ (i : Nat) (d : D) (o : Bool), ρ[i]? = some (some (d, o)) → ∃ v, σ[i]? = some (some v) ∧ Rep cl H d v (F i)
  own : ∀ (i : Nat) (d : D), ρ[i]? = some (some (d, true)) → (F i).Nodup ∧ ∀ a ∈ F i, H0 a = none ∧ NF H a
  dis : ∀ (i j : Nat) (d e : D) (o : Bool), i ≠ j → ρ[i]? = some (some (d, true)) → ρ[j]? = some (some (e, o)) → ∀ a ∈ F i, a ∉ F j
  old : ∀ (i : Nat) (d : D), ρ[i]? = some (some (d, false)) → ∀ a ∈ F i, H0 a ≠ none
def KOk (ρ : Env) (F : Nat → List Addr) (H H0 H' : Hp) (fp : List Addr) : Kd → Prop
  | .sto is => fp.Nodup ∧ (∀ i ∈ is, ∃ d, ρ[i]? = some (some (d, true))) ∧ (∀ a ∈ fp, H a = none ∨ ∃ i ∈ is, a ∈ F i) ∧ ∀ a ∈ fp, NF H' a
  | .old => ∀ a ∈ fp, H0 a ≠ none
  | .bor => True
section
variable {cl : Nat → Addr} {H0 H H' : Hp} {ρ : Env} {F : Nat → List Addr} {σ : St}
theorem SOK.step (S : SOK cl H0 ρ F σ H) (s : Same H H') : SOK cl H0 ρ F σ H' :=
  ⟨S.same.trans s, S.len, fun i d o e => let ⟨v, h1, h2⟩ := S.rep i d o e; ⟨v, h1, h2.same s⟩, fun i d e => ⟨(S.own i d e).1, fun a ha => ⟨((S.own i d e).2 a ha).1, ((S.own i d e).2 a ha).2.same s (let ⟨_, _, r⟩ := S.rep i d true e; r.dom a ha)⟩⟩, S.dis, S.old⟩
theorem KOk.nil0 {H1 : Hp} : KOk ρ F H H0 H1 [] (.sto []) := ⟨List.nodup_nil, fun _ h => (nomatch h), fun _ h => (nomatch h), fun _ h => (nomatch h)⟩
theorem KOk.imm {cl : Nat → Addr} {d : D} {v : V} {fp : List Addr} (r : Rep cl H' d v fp) (h : d.imm = true) {H1 : Hp} : KOk ρ F H H0 H1 fp (.sto []) := by
  rw [r.imm h]
  exact KOk.nil0
theorem SOK.dom (S : SOK cl H0 ρ F σ H) {i : Nat} {d : D} {o : Bool} (e : ρ[i]? = some (some (d, o))) : ∀ a ∈ F i, H a ≠ none := by
  obtain ⟨v, _, r⟩ := S.rep i d o e
  exact r.dom
theorem KOk.comb {H1 H2 : Hp} {f g : List Addr} {k1 k2 : Kd} (S : SOK cl H0 ρ F σ H) (s : Same H H1) (s2 : Same H1 H2) (hf : ∀ a ∈ f, H1 a ≠ none) (h1 : KOk ρ F H H0 H1 f k1) (h2 : KOk ρ F H1 H0 H2 g k2) : KOk ρ F H H0 H2 (f ++ g) (combK k1 k2) := by
  cases k1 with
  | old => exact True.intro
  | bor => exact True.intro
  | sto a =>
    cases k2 with
    | old => exact True.intro
    | bor => exact True.intro
    | sto b =>
      show KOk ρ F H H0 H2 (f ++ g) (if a.all (fun i => !b.contains i) = true then .sto (a ++ b) else .bor)
      by_cases hd : a.all (fun i => !b.contains i) = true
      · rw [if_pos hd]
        have hd' : ∀ i ∈ a, i ∉ b := fun i hi => by
          have := List.all_eq_true.mp hd i hi
          simpa using this
        obtain ⟨n1, o1, m1, z1⟩ := h1
        obtain ⟨n2, o2, m2, z2⟩ := h2
        refine ⟨List.nodup_append.mpr ⟨n1, n2, fun x hx y hy e => ?_⟩, fun i hi => ?_, fun x hx => ?_, fun x hx => (List.mem_append.mp hx).elim (fun z => (z1 x z).same s2 (hf x z)) (z2 x)⟩
        · subst e
          rcases m2 x hy with z | ⟨j, hj, zj⟩
          · exact hf x hx z
          · obtain ⟨dj, ej⟩ := o2 j hj
            rcases m1 x hx with z | ⟨i, hi, zi⟩
            · exact S.dom ej x zj z
            · obtain ⟨di, ei⟩ := o1 i hi
              have hij : i ≠ j := fun q => hd' i hi (q ▸ hj)
              exact S.dis i j di dj true hij ei ej x zi zj
        · rcases List.mem_append.mp hi with z | z
          · exact o1 i z
          · exact o2 i z
        · rcases List.mem_append.mp hx with z | z
          · rcases m1 x z with q | ⟨i, hi, q⟩
            · exact .inl q
            · exact .inr ⟨i, List.mem_append_left _ hi, q⟩
          · rcases m2 x z with q | ⟨i, hi, q⟩
            · exact .inl (s.free q)
            · exact .inr ⟨i, List.mem_append_right _ hi, q⟩
      · rw [if_neg hd]
        exact True.intro
theorem drop_get {α : Type} : ∀ {is : List Nat} {t : List (Option α)} {j : Nat} {x : α}, (is.foldl (fun t j => t.set j none) t)[j]? = some (some x) → t[j]? = some (some x) ∧ j ∉ is := by
  intro x_0
  induction x_0 with
  | nil =>
    intro _ _ _ h
    exact ⟨h, by simp⟩
  | cons i r ih_ =>
    intro t j x h
    obtain ⟨h1, h2⟩ := ih_ h
    by_cases e : i = j
    · subst e
      rw [List.getElem?_set] at h1
      split at h1
      · split at h1 <;> simp at h1
      · exact absurd rfl ‹_›
    · rw [List.getElem?_set_ne e] at h1
      exact ⟨h1, by simp [h2, Ne.symm e]⟩
theorem drop_len {α : Type} : ∀ (is : List Nat) (t : List (Option α)), (is.foldl (fun t j => t.set j none) t).length = t.length := by
  intro x_0
  induction x_0 with
  | nil =>
    intro _
    exact rfl
  | cons i r ih_ =>
    intro t
    show (r.foldl _ (t.set i none)).length = _
    rw [ih_]
    simp
theorem SOK.drop (S : SOK cl H0 ρ F σ H) (is : List Nat) : SOK cl H0 (is.foldl (fun t j => t.set j none) ρ) F σ H :=
  ⟨S.same, by rw [drop_len]; exact S.len, fun i d o e => S.rep i d o (drop_get e).1, fun i d e => S.own i d (drop_get e).1, fun i j d e o h a b => S.dis i j d e o h (drop_get a).1 (drop_get b).1, fun i d e => S.old i d (drop_get e).1⟩
theorem get_set {α : Type} {t : List α} {i j : Nat} {x : α} (hi : i < t.length) : (t.set i x)[j]? = if i = j then some x else t[j]? := by
  rw [List.getElem?_set]
  by_cases e : i = j
  · subst e
    rw [if_pos rfl, if_pos rfl, if_pos hi]
  · rw [if_neg e, if_neg e]
theorem SOK.set {d : D} {v : V} {fp : List Addr} {k : Kd} {i : Nat} {ρ' : Env} (S : SOK cl H0 ρ F σ H) (s : Same H H') (r : Rep cl H' d v fp) (hk : KOk ρ F H H0 H' fp k) (e : setSlot ρ i d k = some ρ') :
    ∃ F', SOK cl H0 ρ' F' (σ.set i (some v)) H' := by
  unfold setSlot at e
  by_cases hi : i < ρ.length
  · rw [if_pos hi] at e
    have hiσ : i < σ.length := by rw [S.len]; exact hi
    have S' := S.step s
    refine ⟨fun j => if j = i then fp else F j, ?_⟩
    cases k with
    | bor => injection e
    | old =>
      (injection e with e; subst e)
      have look : ∀ {j : Nat} {x : D × Bool}, (ρ.set i (some (d, false)))[j]? = some (some x) → (j = i ∧ x = (d, false)) ∨ (j ≠ i ∧ ρ[j]? = some (some x)) := fun {j x} h => by
        rw [get_set hi] at h
        by_cases q : i = j
        · rw [if_pos q] at h; exact .inl ⟨q.symm, by (injection h with h; injection h with h; subst h); rfl⟩
        · rw [if_neg q] at h; exact .inr ⟨Ne.symm q, h⟩
      refine ⟨S'.same, by simpa using S.len, fun j e o h => ?_, fun j e h => ?_, fun j l e e' o hjl h h' => ?_, fun j e h => ?_⟩
      · rcases look h with ⟨rfl, q⟩ | ⟨q, h⟩
        · (injection q with q; subst q)
          exact ⟨v, by rw [get_set hiσ, if_pos rfl], by rw [if_pos rfl]; exact r⟩
        · obtain ⟨w, h1, h2⟩ := S'.rep j e o h
          exact ⟨w, by rw [get_set hiσ, if_neg (Ne.symm q)]; exact h1, by rw [if_neg q]; exact h2⟩
      · rcases look h with ⟨_, q⟩ | ⟨q, h⟩
        · cases q
        · simp only [if_neg q]; exact S'.own j e h
      · rcases look h with ⟨_, q⟩ | ⟨q, hA⟩
        · cases q
        · simp only [if_neg q]
          rcases look h' with ⟨q2, q'⟩ | ⟨q', hB⟩
          · rw [if_pos q2]
            intro a ha hb
            exact hk a hb ((S.own j e hA).2 a ha).1
          · rw [if_neg q']; exact S.dis j l e e' o hjl hA hB
      · rcases look h with ⟨rfl, q⟩ | ⟨q, h⟩
        · rw [if_pos rfl]; exact hk
        · simp only [if_neg q]; exact S.old j e h
    | sto is =>
      have e : (is.foldl (fun t j => t.set j none) ρ).set i (some (d, true)) = ρ' := Option.some.inj e
      subst e
      have hi' : i < (is.foldl (fun t j => t.set j none) ρ).length := by rw [drop_len]; exact hi
      obtain ⟨n1, o1, m1, z1⟩ := hk
      have look : ∀ {j : Nat} {x : D × Bool}, ((is.foldl (fun t j => t.set j none) ρ).set i (some (d, true)))[j]? = some (some x) → (j = i ∧ x = (d, true)) ∨ (j ≠ i ∧ ρ[j]? = some (some x) ∧ j ∉ is) := fun {j x} h => by
        rw [get_set hi'] at h
        by_cases q : i = j
        · rw [if_pos q] at h; exact .inl ⟨q.symm, by (injection h with h; injection h with h; subst h); rfl⟩
        · rw [if_neg q] at h; exact .inr ⟨Ne.symm q, drop_get h⟩
      have apart : ∀ {j : Nat} {e : D} {o : Bool}, ρ[j]? = some (some (e, o)) → j ∉ is → ∀ a ∈ fp, a ∉ F j := fun {j e o} h hj a ha hb => by
        rcases m1 a ha with z | ⟨l, hl, z⟩
        · exact S.dom h a hb z
        · obtain ⟨dl, el⟩ := o1 l hl
          exact S.dis l j dl e o (fun q => hj (q ▸ hl)) el h a z hb
      refine ⟨S'.same, by simp only [List.length_set, drop_len]; exact S.len, fun j e o h => ?_, fun j e h => ?_, fun j l e e' o hjl h h' => ?_, fun j e h => ?_⟩
      · rcases look h with ⟨rfl, q⟩ | ⟨q, h, _⟩
        · (injection q with q; subst q)
          exact ⟨v, by rw [get_set hiσ, if_pos rfl], by rw [if_pos rfl]; exact r⟩
        · obtain ⟨w, h1, h2⟩ := S'.rep j e o h
          exact ⟨w, by rw [get_set hiσ, if_neg (Ne.symm q)]; exact h1, by rw [if_neg q]; exact h2⟩
      · rcases look h with ⟨rfl, _⟩ | ⟨q, h, _⟩
        · rw [if_pos rfl]
          refine ⟨n1, fun a ha => ⟨?_, z1 a ha⟩⟩
          rcases m1 a ha with z | ⟨l, hl, z⟩
          · exact S.same.free z
          · obtain ⟨dl, el⟩ := o1 l hl
            exact ((S.own l dl el).2 a z).1
        · simp only [if_neg q]; exact S'.own j e h
      · rcases look h with ⟨q1, _⟩ | ⟨q, hA, hj⟩
        · simp only [if_pos q1]
          rcases look h' with ⟨q2, _⟩ | ⟨q', hB, hl⟩
          · exact absurd (q1.trans q2.symm) hjl
          · rw [if_neg q']; exact apart hB hl
        · simp only [if_neg q]
          rcases look h' with ⟨q2, _⟩ | ⟨q', hB, hl⟩
          · rw [if_pos q2]; exact fun a ha hb => apart hA hj a hb ha
          · rw [if_neg q']; exact S.dis j l e e' o hjl hA hB
      · rcases look h with ⟨_, q⟩ | ⟨q, h, _⟩
        · cases q
        · simp only [if_neg q]; exact S.old j e h
  · rw [if_neg hi] at e
    injection e
end
inductive tD (cl : Nat → Addr) (ρ : Env) (d : D) (k : Kd) (σ : St) (H : Hp) (Q : VK) : Prop
  | mk (H0 : Hp) (F : Nat → List Addr) (S : SOK cl H0 ρ F σ H) (q : ∀ v H' fp, Same H H' → Rep cl H' d v fp → KOk ρ F H H0 H' fp k → Q v H')
inductive tDs (cl : Nat → Addr) (ρ : Env) (ds : List D) (k : Kd) (σ : St) (H : Hp) (Q : List V → Hp → Prop) : Prop
  | mk (H0 : Hp) (F : Nat → List Addr) (S : SOK cl H0 ρ F σ H) (q : ∀ vs H' fp, Same H H' → RepL cl H' ds vs fp → KOk ρ F H H0 H' fp k → Q vs H')
section
variable {cl : Nat → Addr} {H0 H : Hp} {ρ : Env} {F : Nat → List Addr} {σ : St}
theorem KOk.of_sub {H H1 H2 : Hp} {H0 : Hp} {fp : List Addr} {k : Kd} (s : Same H H1) (h : KOk ρ F H1 H0 H2 fp k) : KOk ρ F H H0 H2 fp k := by
  cases k with
  | sto is => exact ⟨h.1, h.2.1, fun a ha => (h.2.2.1 a ha).elim (fun z => .inl (s.free z)) .inr, h.2.2.2⟩
  | old => exact h
  | bor => exact h
theorem tD2 {d1 d2 : D} {k1 k2 : Kd} {R : V → V → Hp → Prop} (S : SOK cl H0 ρ F σ H)
    (h : ∀ x y H1 H2 f g, Same H H1 → Same H1 H2 → Rep cl H2 d1 x f → Rep cl H2 d2 y g → (∀ a ∈ f, H1 a ≠ none) → KOk ρ F H H0 H1 f k1 → KOk ρ F H1 H0 H2 g k2 → R x y H2) :
    tD cl ρ d1 k1 σ H fun x H1 => tD cl ρ d2 k2 σ H1 fun y H2 => R x y H2 :=
  ⟨H0, F, S, fun x H1 f s1 r1 q1 => ⟨H0, F, S.step s1, fun y H2 g s2 r2 q2 => h x y H1 H2 f g s1 s2 (r1.same s2) r2 r1.dom q1 q2⟩⟩
end
section
variable {cl : Nat → Addr} {H0 H H' : Hp} {ρ ρl ρ' : Env} {F F' : Nat → List Addr} {σ σ' : St}
theorem SOK.mut {i : Nat} {d d' : D} {v : V} {fp : List Addr} {is : List Nat} (S : SOK cl H0 ρ F σ H) (e : ρ[i]? = some (some (d, true))) (hv : σ[i]? = some (some v)) (hi : i ∉ is) (ho : ∀ j ∈ is, ∃ d, ρ[j]? = some (some (d, true)))
    (r : Rep cl H' d' v fp) (n : fp.Nodup) (m : ∀ a ∈ fp, a ∈ F i ∨ H a = none ∨ ∃ j ∈ is, a ∈ F j) (nf : ∀ a ∈ fp, NF H' a) (keep : ∀ b, b ∉ F i → H b ≠ none → H' b = H b) (tup : ∀ a vs, H a = some (.tup vs) → H' a = some (.tup vs)) :
    ∃ F', SOK cl H0 ((is.foldl (fun t j => t.set j none) ρ).set i (some (d', true))) F' σ H' := by
  have hil : i < ρ.length := (List.getElem?_eq_some_iff.mp e).1
  have hi' : i < (is.foldl (fun t j => t.set j none) ρ).length := by rw [drop_len]; exact hil
  refine ⟨fun j => if j = i then fp else F j, ?_⟩
  have look : ∀ {j : Nat} {x : D × Bool}, ((is.foldl (fun t j => t.set j none) ρ).set i (some (d', true)))[j]? = some (some x) → (j = i ∧ x = (d', true)) ∨ (j ≠ i ∧ ρ[j]? = some (some x) ∧ j ∉ is) := fun {j x} h => by
    rw [get_set hi'] at h
    by_cases q : i = j
    · rw [if_pos q] at h; exact .inl ⟨q.symm, by (injection h with h; injection h with h; subst h); rfl⟩
    · rw [if_neg q] at h; exact .inr ⟨Ne.symm q, drop_get h⟩
  have apart : ∀ {j : Nat} {x : D} {o : Bool}, j ≠ i → ρ[j]? = some (some (x, o)) → j ∉ is → ∀ a ∈ fp, a ∉ F j := fun {j x o} hji h hj a ha hb => by
    rcases m a ha with z | z | ⟨l, hl, z⟩
    · exact S.dis i j d x o (Ne.symm hji) e h a z hb
    · exact S.dom h a hb z
    · obtain ⟨dl, el⟩ := ho l hl
      exact S.dis l j dl x o (fun q => hj (q ▸ hl)) el h a z hb
  have stay : ∀ {j : Nat} {x : D} {o : Bool}, j ≠ i → ρ[j]? = some (some (x, o)) → ∀ a ∈ F j, H' a = H a := fun {j x o} hji h a ha =>
    keep a (fun z => S.dis i j d x o (Ne.symm hji) e h a z ha) (S.dom h a ha)
  refine ⟨fun b o h => ?_, by simp only [List.length_set, drop_len]; exact S.len, fun j x o h => ?_, fun j x h => ?_, fun j l x y o hjl h h' => ?_, fun j x h => ?_⟩
  · have h1 := S.same b o h
    rw [keep b (fun z => ?_) (by rw [h1]; simp)]
    · exact h1
    · have := ((S.own i d e).2 b z).1
      rw [h] at this
      injection this
  · rcases look h with ⟨q, z⟩ | ⟨q, hA, hj⟩
    · (injection z with z; subst z)
      rw [q]
      exact ⟨v, hv, by rw [if_pos rfl]; exact r⟩
    · obtain ⟨w, h1, h2⟩ := S.rep j x o hA
      exact ⟨w, h1, by rw [if_neg q]; exact h2.keep ⟨stay q hA, tup⟩⟩
  · rcases look h with ⟨q, z⟩ | ⟨q, hA, hj⟩
    · simp only [if_pos q]
      refine ⟨n, fun a ha => ⟨?_, nf a ha⟩⟩
      rcases m a ha with z | z | ⟨l, hl, z⟩
      · exact ((S.own i d e).2 a z).1
      · exact S.same.free z
      · obtain ⟨dl, el⟩ := ho l hl
        exact ((S.own l dl el).2 a z).1
    · simp only [if_neg q]
      refine ⟨(S.own j x hA).1, fun a ha => ⟨((S.own j x hA).2 a ha).1, fun o u z => ?_⟩⟩
      rw [stay q hA a ha] at z
      exact ((S.own j x hA).2 a ha).2 o u z
  · rcases look h with ⟨q1, _⟩ | ⟨q, hA, hj⟩
    · simp only [if_pos q1]
      rcases look h' with ⟨q2, _⟩ | ⟨q', hB, hl⟩
      · exact absurd (q1.trans q2.symm) hjl
      · rw [if_neg q']; exact apart q' hB hl
    · simp only [if_neg q]
      rcases look h' with ⟨q2, _⟩ | ⟨q', hB, hl⟩
      · rw [if_pos q2]; exact fun a ha hb => apart q hA hj a hb ha
      · rw [if_neg q']; exact S.dis j l x y o hjl hA hB
  · rcases look h with ⟨_, z⟩ | ⟨q, hA, _⟩
    · cases z
    · simp only [if_neg q]; exact S.old j x hA
theorem SOK.lst {i : Nat} {ds : List D} (S : SOK cl H0 ρ F σ H) (e : ρ[i]? = some (some (.lst ds, true))) : ∃ a vs f, σ[i]? = some (some (.ref a)) ∧ H a = some (.lst vs) ∧ F i = a :: f ∧ RepL cl H ds vs f := by
  obtain ⟨v, h1, r⟩ := S.rep i _ _ e
  obtain ⟨a, vs, f, ev, ef, r, h⟩ := r
  subst ev
  rcases h with h | ⟨o, h⟩
  · exact ⟨a, vs, f, h1, h, ef, r⟩
  · exact absurd h (((S.own i _ e).2 a (by rw [ef]; exact List.mem_cons_self)).2 o _)
open Classical in
def reb (H : Hp) (ρ : Env) (F : Nat → List Addr) : Hp := fun a => if ∃ (j : Nat) (d : D), ρ[j]? = some (some (d, true)) ∧ a ∈ F j then none else H a
theorem reb_none {a : Addr} {j : Nat} {d : D} (e : ρ[j]? = some (some (d, true))) (ha : a ∈ F j) : reb H ρ F a = none := by
  unfold reb
  rw [if_pos ⟨j, d, e, ha⟩]
theorem reb_else {a : Addr} (h : ∀ (j : Nat) (d : D), ρ[j]? = some (some (d, true)) → a ∉ F j) : reb H ρ F a = H a := by
  unfold reb
  rw [if_neg fun hh_ => (by obtain ⟨j, d, e, ha⟩ := hh_; exact (h j d e ha))]
def Lent (ρ ρl : Env) : Prop := ρl.length = ρ.length ∧ ∀ (j : Nat) (d : D) (o : Bool), ρl[j]? = some (some (d, o)) → ρ[j]? = some (some (d, o)) ∨ (o = false ∧ ρ[j]? = some (some (d, true)))
theorem Lent.get (L : Lent ρ ρl) {j : Nat} {d : D} {o : Bool} (e : ρl[j]? = some (some (d, o))) : ∃ o', ρ[j]? = some (some (d, o')) ∧ (o = true → o' = true) := by
  rcases L.2 j d o e with h | ⟨h1, h2⟩
  · exact ⟨o, h, id⟩
  · exact ⟨true, h2, fun _ => rfl⟩
theorem SOK.rebase (S : SOK cl H0 ρ F σ H) (L : Lent ρ ρl) : SOK cl (reb H ρl F) ρl F σ H := by
  refine ⟨fun b o h => ?_, S.len.trans L.1.symm, fun j d o h => ?_, fun j d h => ?_, fun i j d e o hij h h' => ?_, fun j d h a ha => ?_⟩
  · unfold reb at h
    split at h
    · injection h
    · exact h
  · obtain ⟨o', h1, _⟩ := L.get h
    exact S.rep j d o' h1
  · obtain ⟨o', h1, h2⟩ := L.get h
    have h1 : ρ[j]? = some (some (d, true)) := by rw [h1, h2 rfl]
    exact ⟨(S.own j d h1).1, fun a ha => ⟨reb_none h ha, ((S.own j d h1).2 a ha).2⟩⟩
  · obtain ⟨o1, h1, h2⟩ := L.get h
    obtain ⟨o2, h3, _⟩ := L.get h'
    have h1 : ρ[i]? = some (some (d, true)) := by rw [h1, h2 rfl]
    exact S.dis i j d e o2 hij h1 h3
  · obtain ⟨o1, h1, _⟩ := L.get h
    rw [reb_else fun l x hl hal => ?_]
    · exact S.dom h1 a ha
    · obtain ⟨o2, h3, h4⟩ := L.get hl
      have h3 : ρ[l]? = some (some (x, true)) := by rw [h3, h4 rfl]
      have hlj : l ≠ j := fun q => by
        rw [q] at hl
        rw [h] at hl
        cases hl
      exact S.dis l j x d o1 hlj h3 h1 a hal ha
set_option tactic.hygienic true in
theorem rest_get {ws : List Nat} {j : Nat} {x : D × Bool} (h : (rest ρ ρl ρ' ws)[j]? = some (some x)) :
    (¬ (j ∉ ws ∧ ∃ d, ρl[j]? = some (some (d, false))) ∧ x.2 = true ∧ ρ'[j]? = some (some x)) ∨ (j ∈ ws ∧ x.2 = true ∧ x.1.imm = true ∧ ρ'[j]? = some (some (x.1, false))) ∨ (j ∉ ws ∧ (∃ d, ρl[j]? = some (some (d, false))) ∧ ρ[j]? = some (some x)) := by
  unfold rest at h
  rw [List.getElem?_mapIdx] at h
  cases e : ρ'[j]? with
  | none => rw [e] at h; injection h
  | some y =>
    rw [e] at h
    simp only [Option.map_some, Option.some.injEq] at h
    by_cases hw : ws.contains j = true
    · rw [if_pos hw] at h
      have hw' : j ∈ ws := by simpa using hw
      cases y with
      | none => injection h
      | some p =>
        obtain ⟨d, o⟩ := p
        cases o with
        | true => (injection h with h; subst h); exact .inl ⟨fun z => z.1 hw', rfl, rfl⟩
        | false =>
          simp only at h
          by_cases hd : d.imm = true
          · rw [if_pos hd] at h
            (injection h with h; subst h)
            exact .inr (.inl ⟨hw', rfl, hd, rfl⟩)
          · rw [if_neg hd] at h
            injection h
    · rw [if_neg hw] at h
      have hw' : j ∉ ws := fun z => hw (by simpa using z)
      split at h
      · rename_i d' el
        refine .inr (.inr ⟨hw', ⟨d', el⟩, ?_⟩)
        cases q : ρ[j]? with
        | none => rw [q] at h; injection h
        | some z => rw [q] at h; simp only at h; rw [h]
      · rename_i hnl
        cases y with
        | none => injection h
        | some p =>
          obtain ⟨d, o⟩ := p
          cases o with
          | true => (injection h with h; subst h); exact .inl ⟨fun z => let ⟨d', e'⟩ := z.2; hnl d' e', rfl, rfl⟩
          | false => injection h
theorem SOK.restore {ws : List Nat} (S : SOK cl H0 ρ F σ H) (L : Lent ρ ρl) (S' : SOK cl (reb H ρl F) ρ' F' σ' H') (hσ : ∀ j, j ∉ ws → σ'[j]? = σ[j]?) :
    ∃ F'', SOK cl H0 (rest ρ ρl ρ' ws) F'' σ' H' := by
  have sub : ∀ {a : Addr}, H0 a ≠ none → reb H ρl F a = H0 a := fun {a} ha => by
    cases q : H0 a with
    | none => exact absurd q ha
    | some o =>
      rw [reb_else fun l x hl hal => ?_]
      · exact S.same a o q
      · obtain ⟨o2, h3, h4⟩ := L.get hl
        have h3 : ρ[l]? = some (some (x, true)) := by rw [h3, h4 rfl]
        have := ((S.own l x h3).2 a hal).1
        rw [q] at this
        injection this
  have R := S.rebase L
  have kept : ∀ {j : Nat} {x : D} {o : Bool}, (∃ d, ρl[j]? = some (some (d, false))) → ρ[j]? = some (some (x, o)) → ∀ a ∈ F j, reb H ρl F a ≠ none := fun {j x o} ⟨d, hl⟩ h a ha => R.old j d hl a ha
  have rebH : ∀ {a : Addr}, reb H ρl F a ≠ none → H' a = H a := fun {a} ha => by
    have e : reb H ρl F a = H a := by
      unfold reb at ha ⊢
      split at ha
      · exact absurd rfl ha
      · rw [if_neg ‹_›]
    cases q : H a with
    | none => rw [e] at ha; exact absurd q ha
    | some o => exact S'.same a o (e.trans q)
  have tups : ∀ a vs, H a = some (.tup vs) → H' a = some (.tup vs) := fun a vs h => by
    have e : reb H ρl F a = H a := reb_else fun l x hl hal => by
      obtain ⟨o2, h3, h4⟩ := L.get hl
      obtain ⟨v, _, r⟩ := S.rep l x o2 h3
      exact r.notup a hal vs h
    exact S'.same a _ (e.trans h)
  refine ⟨fun j => open Classical in if j ∉ ws ∧ (∃ d, ρl[j]? = some (some (d, false))) then F j else F' j, ?_⟩
  refine ⟨fun b o h => S'.same b o ((sub (by rw [h]; simp)).trans h), ?_, fun j d o h => ?_, fun j d h => ?_, fun i j d e o hij h h' => ?_, fun j d h => ?_⟩
  · rw [S'.len]
    unfold rest
    simp
  · rcases rest_get h with ⟨nk, _, e⟩ | ⟨hw, _, hd, e⟩ | ⟨hw, hl, e⟩
    · rw [if_neg nk]; exact S'.rep j d o e
    · rw [if_neg fun z => z.1 hw]; exact S'.rep j d false e
    · rw [if_pos ⟨hw, hl⟩]
      obtain ⟨v, h1, r⟩ := S.rep j d o e
      exact ⟨v, by rw [hσ j hw]; exact h1, r.keep ⟨fun a ha => rebH (kept hl e a ha), tups⟩⟩
  · rcases rest_get h with ⟨nk, _, e⟩ | ⟨hw, _, hd, e⟩ | ⟨hw, hl, e⟩
    · simp only [if_neg nk]
      refine ⟨(S'.own j d e).1, fun a ha => ⟨?_, ((S'.own j d e).2 a ha).2⟩⟩
      have z := ((S'.own j d e).2 a ha).1
      cases q : H0 a with
      | none => rfl
      | some x =>
        have := sub (a := a) (by rw [q]; simp)
        rw [z, q] at this
        injection this
    · simp only [if_neg fun (z : j ∉ ws ∧ _) => z.1 hw]
      obtain ⟨v, _, r⟩ := S'.rep j d false e
      rw [r.imm hd]
      exact ⟨List.nodup_nil, fun a ha => nomatch ha⟩
    · simp only [if_pos (⟨hw, hl⟩ : j ∉ ws ∧ _)]
      refine ⟨(S.own j d e).1, fun a ha => ⟨((S.own j d e).2 a ha).1, fun o u z => ?_⟩⟩
      rw [rebH (kept hl e a ha)] at z
      exact ((S.own j d e).2 a ha).2 o u z
  · intro a ha hb
    rcases rest_get h with ⟨nk, _, ei⟩ | ⟨hw, _, hd, ei⟩ | ⟨hw, hl, ei⟩
    · simp only [if_neg nk] at ha
      have z := ((S'.own i d ei).2 a ha).1
      rcases rest_get h' with ⟨nk', _, ej⟩ | ⟨hw', _, hd', ej⟩ | ⟨hw', hl', ej⟩
      · simp only [if_neg nk'] at hb
        exact S'.dis i j d e o hij ei ej a ha hb
      · simp only [if_neg fun (z : j ∉ ws ∧ _) => z.1 hw'] at hb
        exact S'.dis i j d e false hij ei ej a ha hb
      · simp only [if_pos (⟨hw', hl'⟩ : j ∉ ws ∧ _)] at hb
        exact kept hl' ej a hb z
    · simp only [if_neg fun (z : i ∉ ws ∧ _) => z.1 hw] at ha
      obtain ⟨v, _, r⟩ := S'.rep i d false ei
      rw [r.imm hd] at ha
      cases ha
    · simp only [if_pos (⟨hw, hl⟩ : i ∉ ws ∧ _)] at ha
      have z := kept hl ei a ha
      rcases rest_get h' with ⟨nk', ho', ej⟩ | ⟨hw', _, hd', ej⟩ | ⟨hw', hl', ej⟩
      · simp only [if_neg nk'] at hb
        have ho' : o = true := ho'
        subst ho'
        exact z ((S'.own j e ej).2 a hb).1
      · simp only [if_neg fun (z : j ∉ ws ∧ _) => z.1 hw'] at hb
        obtain ⟨v, _, r⟩ := S'.rep j e false ej
        rw [r.imm hd'] at hb
        cases hb
      · simp only [if_pos (⟨hw', hl'⟩ : j ∉ ws ∧ _)] at hb
        exact S.dis i j d e o hij ei ej a ha hb
  · rcases rest_get h with ⟨_, z, _⟩ | ⟨_, z, _⟩ | ⟨hw, hl, e⟩
    · injection z
    · injection z
    · simp only [if_pos (⟨hw, hl⟩ : j ∉ ws ∧ _)]
      exact S.old j d e
end
end Vi
namespace L2
open PySem PySem.Spec PyProof.Rows
section
variable {X : Cx}
theorem lstR {pins : List (Addr × Obj)} {σ : St} {H : Hp} {s : Shared} {l : Addr} {xs : List V} (I : Inv X pins σ H s) (hH : Rd H l (.lst xs)) : xs.length ≤ sizeLine ∧ ∃ (its : List Value) (n : Nat), Vals xs its ∧ xs.length = its.length ∧ s.heap.get? l = some { cls := .type "list", data := .seq its.toArray n } := by
  obtain ⟨z, its, n, r, e⟩ := hH.ok I.hok
  exact ⟨z, its, n, r, r.length, e⟩
def rCatR : R2 := fun x y H Q => ∃ l b xs zs, x = .ref l ∧ y = .ref b ∧ Rd H l (.lst xs) ∧ Rd H b (.lst zs) ∧ xs.length + zs.length ≤ sizeLine ∧ ∀ p, H p = none → Q (.ref p) (upd H p (.lst (xs ++ zs)))
theorem op_catR : OpR X (binaryOp .Add) rCatR := by
  intro pins s σ H x y v u Q I rx ry hh_
  obtain ⟨l, b, xs, zs, ex, ey, hH, hB, hz, q⟩ := hh_
  subst ex; subst ey
  subst rx
  subst ry
  obtain ⟨z, its, n, r, hl, e⟩ := lstR I hH
  obtain ⟨z2, its2, n2, r2, hl2, e2⟩ := lstR I hB
  refine PySem.P.add_list e e2 ?_ (by simp only [List.size_toArray]; (clear I hH hB q z r e z2 r2 e2; omega))
  rw [show its.toArray ++ its2.toArray = (its ++ its2).toArray by simp]
  refine ⟨.ref _, _, I.lnew (t' := s.toks) (r.append r2) ?_, rfl, q _ I.fresh⟩
  rw [List.length_append]
  assumption
end
end L2
namespace Vi
open PySem PySem.Spec PyProof.Rows L2
theorem size_ok {n : Nat} (h : n ≤ 1000000) : n ≤ sizeLine := by rw [sizeLine_eq]; exact Nat.le_trans ‹_› (by decide)
theorem pe_imp {X : Cx} {e : Expr} {t t' : TE} (h : PE X e t) (i : ∀ σ H Q, t' σ H Q → t σ H Q) : PE X e t' := fun pins s σ H Q I q => h pins s σ H Q I (i σ H Q q)
theorem pt_imp {X : Cx} {e : Expr} {t t' : TT} (h : PT X e t) (i : ∀ σ H Q, t' σ H Q → t σ H Q) : PT X e t' := fun pins s σ H Q I q => h pins s σ H Q I (i σ H Q q)
theorem pa_imp {X : Cx} {es : List Expr} {t t' : TA} (h : PA X es t) (i : ∀ σ H Q, t' σ H Q → t σ H Q) : PA X es t' := fun pos pins s σ H Q I q => h pos pins s σ H Q I (i σ H Q q)
inductive tTd (cl : Nat → Addr) (ρ : Env) (c : Bool) (σ : L2.St) (H : Hp) (Q : Bool → Hp → Prop) : Prop
  | mk (H0 : Hp) (F : Nat → List Addr) (S : SOK cl H0 ρ F σ H) (q : ∀ H', Same H H' → Q c H')
section
variable {X : Cx} {cl : Nat → Addr} {ρ : Env} {a b c : Expr} {pos : Pos} {d d1 d2 z : D} {k k1 k2 : Kd}
set_option tactic.hygienic true in
theorem e_var {i : Nat} {x : Str} (hN : X.N[i]? = some x) (hv : Vis X.env.scope x) (hd : (x == ("__debug__" : Str)) = false) (hcd : (x == ("__classdict__" : Str)) = false) (h : getV ρ i = .ok (d, k)) : PE X (.Name x pos) (tD cl ρ d k) := by
  refine pe_imp (pe_var hN hv hd hcd) fun σ H Q ⟨H0, F, S, q⟩ => ?_
  unfold getV at h
  split at h
  · rename_i d' o e
    injection h with h
    obtain ⟨h1, h2⟩ := Prod.mk.inj h
    subst h1
    obtain ⟨v, h1, r⟩ := S.rep i d' o e
    refine ⟨v, h1, q v H (F i) (Same.refl H) r ?_⟩
    rw [← h2]
    by_cases hi : d'.imm = true
    · rw [if_pos hi]; exact KOk.imm r hi
    · rw [if_neg hi]
      cases o with
      | true =>
        rw [if_pos rfl]
        exact ⟨(S.own i d' e).1, fun j hj => by rw [List.mem_singleton.mp hj]; exact ⟨d', e⟩, fun a ha => .inr ⟨i, List.mem_singleton.mpr rfl, ha⟩, fun a ha => ((S.own i d' e).2 a ha).2⟩
      | false => rw [if_neg Bool.false_ne_true]; exact S.old i d' e
  · injection h
theorem e_int {i : Int} {j} : PE X (.Constant (.int i) j pos) (tD cl ρ (.int i) (.sto [])) := pe_imp pe_int fun σ H Q hh_ => (by obtain ⟨_, _, _, q⟩ := hh_; exact (q _ H [] (Same.refl H) ⟨rfl, rfl⟩ KOk.nil0))
theorem e_bl {i : Bool} {j} : PE X (.Constant (.bool i) j pos) (tD cl ρ (.bl i) (.sto [])) := pe_imp pe_bl fun σ H Q hh_ => (by obtain ⟨_, _, _, q⟩ := hh_; exact (q _ H [] (Same.refl H) ⟨rfl, rfl⟩ KOk.nil0))
theorem e_str {x : Str} {j} : PE X (.Constant (.str x) j pos) (tD cl ρ (.str x) (.sto [])) := pe_imp pe_str fun σ H Q hh_ => (by obtain ⟨_, _, _, q⟩ := hh_; exact (q _ H [] (Same.refl H) ⟨rfl, rfl⟩ KOk.nil0))
theorem e_op {op : Operator} {r : R2} (ho : OpR X (binaryOp op) r) (ha : PE X a (tD cl ρ d1 k1)) (hb : PE X b (tD cl ρ d2 k2))
    (hr : ∀ x y H (Q : VK) f g, Rep cl H d1 x f → Rep cl H d2 y g → (∀ v, Rep cl H z v [] → Q v H) → r x y H Q) : PE X (.BinOp a op b pos) (tD cl ρ z (.sto [])) :=
  pe_imp (pe_op ho ha hb) fun σ H Q hh_ => (by obtain ⟨_, _, S, q⟩ := hh_; exact (tD2 S fun x y H1 H2 f g s1 s2 r1 r2 _ _ _ => hr x y H2 Q f g r1 r2 fun v rv => q v H2 [] (s1.trans s2) rv KOk.nil0))
theorem e_cmp {op : CmpOp} {r : R2} {t : Bool} (ho : OpR X (compareOp op) r) (hm : behindInMarks op b = false) (ha : PE X a (tD cl ρ d1 k1)) (hb : PE X b (tD cl ρ d2 k2))
    (hr : ∀ x y H (Q : VK) f g, Rep cl H d1 x f → Rep cl H d2 y g → Q (.bl t) H → r x y H Q) : PE X (.Compare a [op] [b] pos) (tD cl ρ (.bl t) (.sto [])) :=
  pe_imp (pe_cmpR ho ha hb hm) fun σ H Q hh_ => (by obtain ⟨_, _, S, q⟩ := hh_; exact (tD2 S fun x y H1 H2 f g s1 s2 r1 r2 _ _ _ => hr x y H2 Q f g r1 r2 (q _ H2 [] (s1.trans s2) ⟨rfl, rfl⟩ KOk.nil0)))
theorem t_cmp {op : CmpOp} {r : R2} {t : Bool} (ho : OpR X (compareOp op) r) (hm : behindInMarks op b = false) (ha : PE X a (tD cl ρ d1 k1)) (hb : PE X b (tD cl ρ d2 k2))
    (hr : ∀ x y H (Q : VK) f g, Rep cl H d1 x f → Rep cl H d2 y g → Q (.bl t) H → r x y H Q) : PT X (.Compare a [op] [b] pos) (tTd cl ρ t) :=
  pt_imp (pt_cmpR ho ha hb hm) fun σ H Q hh_ => (by obtain ⟨_, _, S, q⟩ := hh_; exact (tD2 S fun x y H1 H2 f g s1 s2 r1 r2 _ _ _ => hr x y H2 _ f g r1 r2 ⟨t, rfl, q H2 (s1.trans s2)⟩))
def opOf : Op → Operator
  | .add => .Add
  | .sub => .Sub
  | .mul => .Mult
  | .fdiv => .FloorDiv
  | .mod => .Mod
  | .pow => .Pow
theorem kd_imm (h : z.imm = true) : kdOf z = .sto [] := by
  unfold kdOf
  rw [if_pos]
  cases z <;> first | exact h | (simp [D.imm] at h)
theorem RepL.append {H : Hp} : ∀ {l m : List D} {vs ws : List V} {f g : List Addr}, RepL cl H l vs f → RepL cl H m ws g → RepL cl H (l ++ m) (vs ++ ws) (f ++ g) := by
  intro x_0
  induction x_0 with
  | nil =>
    intro m vs ws f g h h'
    obtain ⟨h1, h2⟩ := h
    rw [h1, h2]
    exact h'
  | cons d l ih_ =>
    intro m vs ws f g h h'
    obtain ⟨v, vr, f1, f2, e, ef, r1, r2⟩ := h
    subst e; subst ef
    show RepL cl H (d :: (l ++ m)) _ _
    unfold RepL
    exact ⟨v, vr ++ ws, f1, f2 ++ g, rfl, by rw [List.append_assoc], r1, ih_ r2 h'⟩
theorem lst_read {K : PySem.W.Frag} {H : Hp} {l : List D} {x : V} {f : List Addr} (r : Rep cl H (.lst l) x f) : ∃ p vs g, x = .ref p ∧ SqL K H p vs ∧ RepL cl H l vs g := by
  obtain ⟨p, vs, g, e, _, r, h⟩ := r
  refine ⟨p, vs, g, e, ?_, r⟩
  rcases h with h | ⟨o, h⟩
  · exact .inl (.inl h)
  · exact .inl (.inr ⟨o, h⟩)
theorem tup_read {K : PySem.W.Frag} {H : Hp} {l : List D} {x : V} {f : List Addr} (r : Rep cl H (.tup l) x f) : ∃ p vs, x = .ref p ∧ SqT K H p vs ∧ RepL cl H l vs f := by
  obtain ⟨p, vs, e, h, r⟩ := r
  exact ⟨p, vs, e, .inl (.inl h), r⟩
theorem lst_rd {H : Hp} {l : List D} {x : V} {f : List Addr} (r : Rep cl H (.lst l) x f) : ∃ p vs g, x = .ref p ∧ Rd H p (.lst vs) ∧ RepL cl H l vs g := by
  obtain ⟨p, vs, g, e, _, r, h⟩ := r
  exact ⟨p, vs, g, e, h, r⟩
theorem i2_ok {α : Type} {f : Int → Int → R α} {d1 d2 : D} {z : α} (h : i2 f d1 d2 = .ok z) : ∃ a b, d1 = .int a ∧ d2 = .int b ∧ f a b = .ok z := by
  cases d1 with
  | int a => cases d2 with
    | int b => exact ⟨a, b, rfl, rfl, h⟩
    | _ => injection h
  | _ => injection h
theorem ite_ok {α : Type} {c : Prop} [Decidable c] {x z : α} (h : (if c then R.ok x else R.bad) = .ok z) : c ∧ x = z := by
  by_cases hc : c
  · rw [if_pos hc] at h; injection h with h; exact ⟨hc, h⟩
  · rw [if_neg hc] at h; injection h
theorem RepL.rep {H : Hp} {l : List D} {vs : List V} (r : RepL cl H l vs []) : ∀ n : Nat, RepL cl H (List.replicate n l).flatten (List.replicate n vs).flatten [] := by
  intro n
  induction n with
  | zero => exact ⟨rfl, rfl⟩
  | succ n ih => exact r.append ih
theorem rep_imm {l : List D} (h : immL l = true) (n : Nat) : immL (List.replicate n l).flatten = true := immL_all.mpr fun d hd => by
  obtain ⟨m, hm, h1⟩ := List.mem_flatten.mp hd
  rw [List.eq_of_mem_replicate hm] at h1
  exact immL_all.mp h d h1
theorem e_rep {l : List D} {n : Int} (hc : immL l = true ∧ 0 ≤ n ∧ n ≤ 1000000 ∧ l.length * n.toNat ≤ 1000000) (ha : PE X a (tD cl ρ (.lst l) k1)) (hb : PE X b (tD cl ρ (.int n) k2)) : PE X (.BinOp a .Mult b pos) (tD cl ρ (.lst (List.replicate n.toNat l).flatten) (kdOf (.lst (List.replicate n.toNat l).flatten))) := by
  refine pe_imp (pe_op op_rep ha hb) fun σ H Q hh => ?_
  obtain ⟨H0, F, S, q⟩ := hh
  refine tD2 S fun x y H1 H2 f g s1 s2 r1 r2 _ _ _ => ?_
  obtain ⟨p1, v1, g1, e1, h1, l1⟩ := lst_rd r1
  have eg := l1.imm hc.1
  subst eg
  refine ⟨p1, n, v1, e1, r2.1, h1, Int.le_trans (by decide) hc.2.1, Int.lt_of_le_of_lt hc.2.2.1 (by decide), by rw [l1.len]; exact size_ok hc.2.2.2, fun p hp => ?_⟩
  have sn := Same.new (o := HO.lst (List.replicate n.toNat v1).flatten) hp
  have rr : Rep cl (upd H2 p (.lst (List.replicate n.toNat v1).flatten)) (.lst (List.replicate n.toNat l).flatten) (.ref p) [p] := by
    unfold Rep
    exact ⟨p, _, _, rfl, rfl, (l1.rep n.toNat).same sn, .inl upd_same⟩
  refine q (.ref p) _ _ ((s1.trans s2).trans sn) rr ?_
  rw [show kdOf (.lst (List.replicate n.toNat l).flatten) = .sto [] from if_pos (show (D.lst (List.replicate n.toNat l).flatten).flat = true from rep_imm hc.1 _)]
  refine ⟨by simp, fun _ h => (nomatch h), fun a ha => .inl ?_, fun a ha o u z => ?_⟩
  · rw [List.mem_singleton.mp ha]; exact (s1.trans s2).free hp
  · rw [List.mem_singleton.mp ha, upd_same] at z; (injection z with z; injection z)
theorem e_bin {o : Op} (h : opD o d1 d2 = .ok z) (ha : PE X a (tD cl ρ d1 k1)) (hb : PE X b (tD cl ρ d2 k2)) : PE X (.BinOp a (opOf o) b pos) (tD cl ρ z (kdOf z)) := by
  cases o with
  | add =>
    cases d1 with
    | int i1 =>
      cases d2 with
      | int j1 =>
        rw [opD_1] at h
        injection h with h; subst h
        rw [kd_imm rfl]
        exact e_op op_add ha hb fun x y H Q f g r1 r2 q => ⟨_, _, r1.1, r2.1, q _ ⟨rfl, rfl⟩⟩
      | _ => injection h
    | lst l =>
      cases d2 with
      | lst m =>
        rw [opD_7] at h
        split at h
        · rename_i hc
          injection h with h; subst h
          refine pe_imp (pe_op op_catR ha hb) fun σ H Q ⟨H0, F, S, q⟩ => tD2 S fun x y H1 H2 f g s1 s2 r1 r2 _ _ _ => ?_
          obtain ⟨p1, v1, g1, e1, h1, l1⟩ := lst_rd r1
          obtain ⟨p2, v2, g2, e2, h2, l2⟩ := lst_rd r2
          refine ⟨p1, p2, v1, v2, e1, e2, h1, h2, by rw [l1.len, l2.len]; exact size_ok hc, fun p hp => ?_⟩
          have sn := Same.new (o := HO.lst (v1 ++ v2)) hp
          have ll := (l1.append l2).same sn
          have rr : Rep cl (upd H2 p (.lst (v1 ++ v2))) (.lst (l ++ m)) (.ref p) (p :: (g1 ++ g2)) := by
            unfold Rep
            exact ⟨p, _, _, rfl, rfl, ll, .inl upd_same⟩
          refine q (.ref p) _ _ ((s1.trans s2).trans sn) rr ?_
          unfold kdOf
          by_cases hi : immL (l ++ m) = true
          · rw [if_pos (show (D.lst (l ++ m)).flat = true from hi)]
            have e0 := ll.imm hi
            rw [e0]
            refine ⟨by simp, fun _ h => (nomatch h), fun a ha => .inl ?_, fun a ha o u z => ?_⟩
            · rw [List.mem_singleton.mp ha]; exact (s1.trans s2).free hp
            · rw [List.mem_singleton.mp ha, upd_same] at z; (injection z with z; injection z)
          · rw [if_neg (show ¬ (D.lst (l ++ m)).flat = true from hi)]
            exact True.intro
        · injection h
      | _ => injection h
    | _ => injection h
  | sub =>
    obtain ⟨i, j, e1, e2, h⟩ := i2_ok h
    subst e1; subst e2
    injection h with h; subst h
    rw [kd_imm rfl]
    exact e_op op_sub ha hb fun x y H Q f g r1 r2 q => ⟨_, _, r1.1, r2.1, q _ ⟨rfl, rfl⟩⟩
  | mul =>
    cases d1 with
    | int i =>
      cases d2 with
      | int j =>
        obtain ⟨hc, h⟩ := ite_ok h
        subst h
        rw [kd_imm rfl]
        exact e_op op_mul ha hb fun x y H Q f g r1 r2 q => ⟨_, _, r1.1, r2.1, hc, q _ ⟨rfl, rfl⟩⟩
      | _ => injection h
    | lst l =>
      cases d2 with
      | int n =>
        rw [opD_8] at h
        obtain ⟨hc, h⟩ := ite_ok h
        subst h
        exact e_rep hc ha hb
      | _ => injection h
    | _ => injection h
  | fdiv =>
    obtain ⟨i, j, e1, e2, h⟩ := i2_ok h
    subst e1; subst e2
    obtain ⟨hc, h⟩ := ite_ok h
    subst h
    rw [kd_imm rfl]
    exact e_op op_fdiv ha hb fun x y H Q f g r1 r2 q => ⟨_, _, r1.1, r2.1, hc, q _ ⟨rfl, rfl⟩⟩
  | mod =>
    obtain ⟨i, j, e1, e2, h⟩ := i2_ok h
    subst e1; subst e2
    obtain ⟨hc, h⟩ := ite_ok h
    subst h
    rw [kd_imm rfl]
    exact e_op op_mod ha hb fun x y H Q f g r1 r2 q => ⟨_, _, r1.1, r2.1, hc, q _ ⟨rfl, rfl⟩⟩
  | pow =>
    obtain ⟨i, j, e1, e2, h⟩ := i2_ok h
    subst e1; subst e2
    obtain ⟨hc, h⟩ := ite_ok h
    subst h
    rw [kd_imm rfl]
    exact e_op op_pow ha hb fun x y H Q f g r1 r2 q => ⟨_, _, r1.1, r2.1, hc, q _ ⟨rfl, rfl⟩⟩
end
section
variable {X : Cx} {cl : Nat → Addr} {ρ : Env} {a b c e : Expr} {es : List Expr} {pos : Pos} {d d1 d2 z : D} {ds : List D} {k k1 k2 k' : Kd}
theorem KOk.post {H H0 H1 H2 : Hp} {F : Nat → List Addr} {fp : List Addr} (h : KOk ρ F H H0 H1 fp k) (s : Same H1 H2) (hd : ∀ a ∈ fp, H1 a ≠ none) : KOk ρ F H H0 H2 fp k := by
  cases k with
  | sto is => exact ⟨h.1, h.2.1, h.2.2.1, fun a ha => (h.2.2.2 a ha).same s (hd a ha)⟩
  | old => exact h
  | bor => exact h
theorem a_nil : PA X [] (tDs cl ρ [] (.sto [])) := pa_imp pa_nil fun σ H Q hh_ => (by obtain ⟨_, _, _, q⟩ := hh_; exact (q [] H [] (Same.refl H) ⟨rfl, rfl⟩ KOk.nil0))
theorem a_cons (h1 : PE X e (tD cl ρ d k)) (h2 : PA X es (tDs cl ρ ds k')) (hs : starEach (e :: es) X.env = (false, eval e X.env) :: starEach es X.env) : PA X (e :: es) (tDs cl ρ (d :: ds) (combK k k')) :=
  pa_imp (pa_cons h1 h2 hs) fun σ H Q ⟨H0, F, S, q⟩ => ⟨H0, F, S, fun x H1 f s1 r1 q1 => ⟨H0, F, S.step s1, fun xs H2 g s2 r2 q2 =>
    q (x :: xs) H2 (f ++ g) (s1.trans s2) (by unfold RepL; exact ⟨x, xs, f, g, rfl, rfl, r1.same s2, r2⟩) (KOk.comb S s1 s2 r1.dom q1 q2)⟩⟩
theorem e_lst (h : PA X es (tDs cl ρ ds k)) (hl : ds.length ≤ 1000000) : PE X (.List es pos) (tD cl ρ (.lst ds) (dispK k)) :=
  pe_imp (pe_lst h) fun σ H Q ⟨H0, F, S, q⟩ => ⟨H0, F, S, fun vs H1 fp s1 r1 q1 => ⟨by rw [r1.len]; exact size_ok hl, fun p hp => by
    have sn := Same.new (o := HO.lst vs) hp
    have np : p ∉ fp := fun z => r1.dom p z hp
    refine q (.ref p) _ (p :: fp) (s1.trans sn) ?_ ?_
    · unfold Rep
      exact ⟨p, vs, fp, rfl, rfl, r1.same sn, .inl upd_same⟩
    · cases k with
      | old => exact True.intro
      | bor => exact True.intro
      | sto is =>
        obtain ⟨h1, h2, h3, h4⟩ := q1.post sn r1.dom
        refine ⟨List.nodup_cons.mpr ⟨np, h1⟩, h2, fun a ha => ?_, fun a ha => ?_⟩
        · rcases List.mem_cons.mp ha with z | z
          · rw [z]; exact .inl (s1.free hp)
          · exact h3 a z
        · rcases List.mem_cons.mp ha with z | z
          · rw [z]; intro o u q'; rw [upd_same] at q'; (injection q' with q'; injection q')
          · exact h4 a z⟩⟩
end
section
variable {X : Cx} {cl : Nat → Addr} {ρ : Env} {a b c e : Expr} {es rest : List Expr} {pos : Pos} {d d1 d2 z : D} {ds : List D} {k k1 k2 k' : Kd} {t u : Bool}
theorem isEmpty_len {α β : Type} {l : List α} {m : List β} (h : l.length = m.length) : l.isEmpty = m.isEmpty := by
  cases l <;> cases m <;> first | rfl | simp at h
theorem tru_rep {K : PySem.W.Frag} {H : Hp} {x : V} {f : List Addr} (r : Rep cl H d x f) (h : truD d = .ok t) : TruV K x H t := by
  cases d with
  | non => (injection h with h; subst h); rw [r.1]; exact rfl
  | bl b => (injection h with h; subst h); rw [r.1]; exact rfl
  | int i => (injection h with h; subst h); rw [r.1]; exact rfl
  | str x => injection h
  | dK l => injection h
  | dT l => injection h
  | obj c fs => injection h
  | lst l =>
    (injection h with h; subst h)
    obtain ⟨p, vs, g, e, h1, h2⟩ := lst_read (K := K) r
    rw [e]
    exact .inl ⟨vs, h1, by rw [isEmpty_len h2.len]⟩
  | tup l =>
    (injection h with h; subst h)
    obtain ⟨p, vs, e, h1, h2⟩ := tup_read (K := K) r
    rw [e]
    exact .inr (.inl ⟨vs, h1, by rw [isEmpty_len h2.len]⟩)
theorem t_truth (h : PE X a (tD cl ρ d k)) (ht : truD d = .ok t) (he : ∀ whole, isTrue a X.env whole = (do let v ← whole; standAt a.pos; holding [v] (truthy v))) : PT X a (tTd cl ρ t) :=
  pt_imp (pt_truth h he) fun σ H Q hh_ => (by obtain ⟨H0, F, S, q⟩ := hh_; exact (⟨H0, F, S, fun v H1 fp s1 r1 _ => ⟨t, tru_rep r1 ht, q H1 s1⟩⟩))
theorem t_not (h : PT X a (tTd cl ρ t)) : PT X (.UnaryOp .Not a pos) (tTd cl ρ (!t)) :=
  pt_imp (pt_not h) fun σ H Q hh_ => (by obtain ⟨H0, F, S, q⟩ := hh_; exact (⟨H0, F, S, fun H1 s1 => q H1 s1⟩))
theorem w_one_or (h : PT X a (tTd cl ρ t)) : PW X (.BoolOp .Or [a] pos) (tTd cl ρ t) := pw_or1 h
theorem w_or (h : PT X a (tTd cl ρ t)) (h' : t = false → PW X (.BoolOp .Or (b :: rest) pos) (tTd cl ρ u)) : PW X (.BoolOp .Or (a :: b :: rest) pos) (tTd cl ρ (t || u)) := by
  intro wh pins s σ H Q I hh_
  obtain ⟨H0, F, S, q⟩ := hh_
  cases t with
  | false => exact pw_or h (h' rfl) wh pins s σ H Q I ⟨H0, F, S, fun H1 s1 => iteF ⟨H0, F, S.step s1, fun H2 s2 => q H2 (s1.trans s2)⟩⟩
  | true =>
    refine isTrue_or (thn (h pins s σ H (fun b H1 => b = true ∧ Q true H1) I ⟨H0, F, S, fun H1 s1 => ⟨rfl, q H1 s1⟩⟩) fun c s1 ⟨H1, I1, e, q1⟩ => ?_)
    subst e
    exact ⟨H1, I1, q1⟩
theorem RepL.get {H : Hp} : ∀ {l : List D} {vs : List V} {fp : List Addr} {j : Nat} {d : D}, RepL cl H l vs fp → l[j]? = some d → ∃ v f, vs[j]? = some v ∧ Rep cl H d v f ∧ ∀ a ∈ f, a ∈ fp := by
  intro x_0
  induction x_0 with
  | nil =>
    intro _ _ _ _ _ e
    simp at e
  | cons x r ih_ =>
    intro vs fp x_3
    cases x_3 with
    | zero =>
      intro d h e
      obtain ⟨v, vr, f, g, ev, ef, h1, h2⟩ := h
      subst ev; subst ef
      (injection e with e; subst e)
      exact ⟨v, f, rfl, h1, fun a ha => List.mem_append_left _ ha⟩
    | succ j =>
      intro d h e
      obtain ⟨v, vr, f, g, ev, ef, h1, h2⟩ := h
      subst ev; subst ef
      obtain ⟨w, f', e1, e2, e3⟩ := ih_ h2 (show r[j]? = some d by simpa using e)
      exact ⟨w, f', by simpa using e1, e2, fun a ha => List.mem_append_right _ (e3 a ha)⟩
theorem part_ok {H H0 H1 : Hp} {F : Nat → List Addr} {f fp : List Addr} {v : V} (r : Rep cl H1 d v f) (hs : ∀ a ∈ f, a ∈ fp) (h : KOk ρ F H H0 H1 fp k) : KOk ρ F H H0 H1 f (partK d k) := by
  by_cases hi : d.imm = true
  · cases k <;> (show KOk ρ F H H0 H1 f (if d.imm = true then _ else _); rw [if_pos hi]; exact KOk.imm r hi)
  · cases k with
    | old => show KOk ρ F H H0 H1 f (if d.imm = true then _ else _); rw [if_neg hi]; exact fun a ha => h a (hs a ha)
    | sto is => show KOk ρ F H H0 H1 f (if d.imm = true then _ else _); rw [if_neg hi]; exact True.intro
    | bor => show KOk ρ F H H0 H1 f (if d.imm = true then _ else _); rw [if_neg hi]; exact True.intro
set_option tactic.hygienic true in
theorem ix_get {l : List D} {i : Int} {z : D} (h : (match atD l.length i with | some k => (match l[k]? with | some d => R.ok d | none => .bad) | none => .bad) = .ok z) : ∃ j, atD l.length i = some j ∧ l[j]? = some z := by
  cases e : atD l.length i with
  | none => rw [e] at h; injection h
  | some j =>
    rw [e] at h
    have h : (match l[j]? with | some d => R.ok d | none => .bad) = .ok z := h
    cases e2 : l[j]? with
    | none => rw [e2] at h; injection h
    | some d => rw [e2] at h; injection h with h; exact ⟨j, rfl, by rw [← h]; exact e2⟩
theorem e_ix (h : ixD d1 d2 = .ok z) (ha : PE X a (tD cl ρ d1 k1)) (hb : PE X b (tD cl ρ d2 k2)) (hs : PlainIx b) : PE X (.Subscript a b pos) (tD cl ρ z (partK z k1)) := by
  have key : ∀ {α : Type} {xs : List α} {i : Int} {j : Nat} {v : α}, atD xs.length i = some j → xs[j]? = some v → atI xs i = some v := fun {α xs i j v} h1 h2 => by
    unfold atI
    rw [show ixN xs.length i = some j from h1]
    exact h2
  cases d1 with
  | lst l =>
    cases d2 with
    | int i =>
      obtain ⟨j, hj, hd⟩ := ix_get h
      refine pe_imp (pe_ix ix_list ha hb hs) fun σ H Q ⟨H0, F, S, q⟩ => tD2 S fun x y H1 H2 f g s1 s2 r1 r2 dm q1 q2 => ?_
      obtain ⟨p, vs, f', e, ef, r, hp⟩ := r1
      obtain ⟨v, fv, e1, e2, e3⟩ := r.get hd
      refine ⟨p, vs, i, v, e, r2.1, ?_, key (by rw [r.len]; exact hj) e1, q v H2 fv (s1.trans s2) e2 (part_ok (fp := f) e2 (fun a ha => by rw [ef]; exact List.mem_cons_of_mem _ (e3 a ha)) (q1.post s2 dm))⟩
      exact .inl hp
    | _ => injection h
  | tup l =>
    cases d2 with
    | int i =>
      obtain ⟨j, hj, hd⟩ := ix_get h
      refine pe_imp (pe_ix ix_tup ha hb hs) fun σ H Q ⟨H0, F, S, q⟩ => tD2 S fun x y H1 H2 f g s1 s2 r1 r2 dm q1 q2 => ?_
      obtain ⟨p, vs, e, hp, r⟩ := r1
      obtain ⟨v, fv, e1, e2, e3⟩ := r.get hd
      exact ⟨p, vs, i, v, e, r2.1, .inl (.inl hp), key (by rw [r.len]; exact hj) e1, q v H2 fv (s1.trans s2) e2 (part_ok (fp := f) e2 e3 (q1.post s2 dm))⟩
    | _ => injection h
  | _ => injection h
def spP (cl : Nat → Addr) (m : List D → R D) : Sp := fun vs H Q _ => ∃ ds fp r, RepL cl H ds vs fp ∧ m ds = .ok r ∧ ∀ v H' fp', Same H H' → Rep cl H' r v fp' → fp'.Nodup → (∀ a ∈ fp', H a = none ∧ NF H' a) → Q v H'
theorem e_call {m : List D → R D} {kk : Nat} {f : Addr} {fd : FuncData} {ps : List Str} {x : Str} {p : Pos} (F : FnOk X.prog X.w X.K X.mg X.base CX0 kk f fd ps (spP cl m)) (hr : Room kk X.A) (hg : Gl X x) (hm : X.mg x = some (.ref f))
    (hk : PySem.W.keepIn X.K (.ref f) = true) (hb : Binds X.K fd ps []) (ha : PA X (e :: es) (tDs cl ρ ds k)) (h : m ds = .ok z)
    (hd : (x == ("__debug__" : Str)) = false) (he : starEach (e :: es) X.env = (false, eval e X.env) :: starEach es X.env) (hpl : (backTo pos (starEach es X.env)).any (·.1) = false) :
    PE X (.Call (.Name x p) (e :: es) [] pos) (tD cl ρ z (.sto [])) := by
  refine pe_imp (pe_call F hr hg hm hk hb .nil pass0 ha hd he hpl) fun σ H Q ⟨H0, F', S, q⟩ => ⟨H0, F', S, fun vs H1 fp s1 r1 q1 => ?_⟩
  refine ⟨ds, fp, z, by rw [List.append_nil]; exact r1, h, fun v H2 fp' s2 r2 nd fr => q v H2 fp' (s1.trans s2) r2 ⟨nd, fun _ z => (nomatch z), fun a ha => .inl (s1.free (fr a ha).1), fun a ha => (fr a ha).2⟩⟩
end
def PostO (cl : Nat → Addr) (H0 : Hp) (σ : L2.St) (ws : List Nat) (D' : Ends) : Out → Prop
  | .nx ρ' => ∀ σ' H' F', SOK cl H0 ρ' F' σ' H' → (∀ j, j ∉ ws → σ'[j]? = σ[j]?) → D'.nx σ' H'
  | .bk ρ' => ∀ σ' H' F', SOK cl H0 ρ' F' σ' H' → (∀ j, j ∉ ws → σ'[j]? = σ[j]?) → D'.bk σ' H'
  | .ct ρ' => ∀ σ' H' F', SOK cl H0 ρ' F' σ' H' → (∀ j, j ∉ ws → σ'[j]? = σ[j]?) → D'.ct σ' H'
  | .rt d => ∀ v H' fp, Same H0 H' → Rep cl H' d v fp → fp.Nodup → (∀ a ∈ fp, H0 a = none ∧ NF H' a) → D'.rt v H'
  | .ex _ => False
  | .bad => False
inductive tSd (cl : Nat → Addr) (ρ : Env) (ws : List Nat) (o : Out) (D' : Ends) (σ : L2.St) (H : Hp) : Prop
  | mk (H0 : Hp) (F : Nat → List Addr) (S : SOK cl H0 ρ F σ H) (q : PostO cl H0 σ ws D' o)
theorem ps_imp {X : Cx} {st : Stmt} {t t' : TS} (h : PS X st t) (i : ∀ D σ H, t' D σ H → t D σ H) : PS X st t' := fun pins s σ H D I q => h pins s σ H D I (i D σ H q)
theorem pss_imp {X : Cx} {st : List Stmt} {t t' : TS} (h : PSs X st t) (i : ∀ D σ H, t' D σ H → t D σ H) : PSs X st t' := fun pins s σ H D I q => h pins s σ H D I (i D σ H q)
section
variable {X : Cx} {cl : Nat → Addr} {ρ ρ' : Env} {a b c e : Expr} {es : List Expr} {st : Stmt} {rst : List Stmt} {pos : Pos} {d : D} {k : Kd} {t : Bool} {ws ws' : List Nat} {o : Out} {H0 : Hp} {σ σ1 : L2.St} {D' : Ends}
theorem PostO.step (h : PostO cl H0 σ (ws ++ ws') D' o) (hs : ∀ j, j ∉ ws → σ1[j]? = σ[j]?) : PostO cl H0 σ1 ws' D' o := by
  have fr : ∀ {σ' : L2.St}, (∀ j, j ∉ ws' → σ'[j]? = σ1[j]?) → ∀ j, j ∉ ws ++ ws' → σ'[j]? = σ[j]? := fun {σ'} hw j hj => (hw j fun z => hj (List.mem_append_right _ z)).trans (hs j fun z => hj (List.mem_append_left _ z))
  cases o with
  | nx ρ => exact fun σ' H' F' S hw => h σ' H' F' S (fr hw)
  | bk ρ => exact fun σ' H' F' S hw => h σ' H' F' S (fr hw)
  | ct ρ => exact fun σ' H' F' S hw => h σ' H' F' S (fr hw)
  | rt d => exact h
  | ex x => exact h
  | bad => exact h
theorem PostO.sub (h : PostO cl H0 σ ws' D' o) (hs : ∀ j, j ∈ ws → j ∈ ws') : PostO cl H0 σ ws D' o := by
  have fr : ∀ {σ' : L2.St}, (∀ j, j ∉ ws → σ'[j]? = σ[j]?) → ∀ j, j ∉ ws' → σ'[j]? = σ[j]? := fun {σ'} hw j hj => hw j fun z => hj (hs j z)
  cases o with
  | nx ρ => exact fun σ' H' F' S hw => h σ' H' F' S (fr hw)
  | bk ρ => exact fun σ' H' F' S hw => h σ' H' F' S (fr hw)
  | ct ρ => exact fun σ' H' F' S hw => h σ' H' F' S (fr hw)
  | rt d => exact h
  | ex x => exact h
  | bad => exact h
theorem s_bad : PS X st (tSd cl ρ ws .bad) := fun _ _ _ _ _ _ hh_ => (by obtain ⟨_, _, _, h⟩ := hh_; exact (h.elim))
theorem s_ex {x : D} : PS X st (tSd cl ρ ws (.ex x)) := fun _ _ _ _ _ _ hh_ => (by obtain ⟨_, _, _, h⟩ := hh_; exact (h.elim))
theorem ss_bad {sts : List Stmt} : PSs X sts (tSd cl ρ ws .bad) := fun _ _ _ _ _ _ hh_ => (by obtain ⟨_, _, _, h⟩ := hh_; exact (h.elim))
theorem ss_ex {sts : List Stmt} {x : D} : PSs X sts (tSd cl ρ ws (.ex x)) := fun _ _ _ _ _ _ hh_ => (by obtain ⟨_, _, _, h⟩ := hh_; exact (h.elim))
theorem ss_nil : PSs X [] (tSd cl ρ [] (.nx ρ)) := pss_imp pss_nil fun D σ H hh_ => (by obtain ⟨H0, F, S, q⟩ := hh_; exact (q σ H F S fun _ _ => rfl))
theorem ss_cons {f : Env → Out} (h1 : PS X st (tSd cl ρ ws o)) (h2 : ∀ ρ', o = .nx ρ' → PSs X rst (tSd cl ρ' ws' (f ρ'))) : PSs X (st :: rst) (tSd cl ρ (ws ++ ws') (o.bind f)) := by
  have sub : ∀ j, j ∈ ws → j ∈ ws ++ ws' := fun j hj => List.mem_append_left _ hj
  cases o with
  | nx ρ' => exact pss_imp (pss_cons h1 (h2 ρ' rfl)) fun D σ H ⟨H0, F, S, q⟩ => ⟨H0, F, S, fun σ' H' F' S' hs => ⟨H0, F', S', PostO.step q hs⟩⟩
  | bk ρ' => exact pss_imp (pss_cons h1 pss_never) fun D σ H ⟨H0, F, S, q⟩ => ⟨H0, F, S, PostO.sub (D' := D) q sub⟩
  | ct ρ' => exact pss_imp (pss_cons h1 pss_never) fun D σ H ⟨H0, F, S, q⟩ => ⟨H0, F, S, PostO.sub (D' := D) q sub⟩
  | rt d => exact pss_imp (pss_cons h1 pss_never) fun D σ H ⟨H0, F, S, q⟩ => ⟨H0, F, S, q⟩
  | ex x => exact ss_ex
  | bad => exact ss_bad
theorem s_set {i : Nat} (h : PS X st (tAsg (tD cl ρ d k) (gName i))) (e : setSlot ρ i d k = some ρ') : PS X st (tSd cl ρ [i] (.nx ρ')) :=
  ps_imp h fun D σ H ⟨H0, F, S, q⟩ => ⟨H0, F, S, fun v H1 fp s1 r1 q1 => by
    obtain ⟨F', S'⟩ := S.set s1 r1 q1 e
    exact q _ H1 F' S' fun j hj => List.getElem?_set_ne fun z => hj (by rw [z]; exact List.mem_singleton.mpr rfl)⟩
theorem s_ret (h : PE X e (tD cl ρ d k)) : PS X (.Return (some e) pos) (tSd cl ρ [] (retK d k)) := by
  cases k with
  | old => exact s_bad
  | bor => exact s_bad
  | sto is => exact ps_imp (ps_ret h) fun D σ H ⟨H0, F, S, q⟩ => ⟨H0, F, S, fun v H1 fp s1 r1 hh_ => (by obtain ⟨n1, o1, m1, z1⟩ := hh_; exact (q v H1 fp (S.same.trans s1) r1 n1 fun a ha => ⟨by
      rcases m1 a ha with z | ⟨l, hl, z⟩
      · exact S.same.free z
      · obtain ⟨dl, el⟩ := o1 l hl
        exact ((S.own l dl el).2 a z).1, z1 a ha⟩))⟩
theorem s_if {sa sb : List Stmt} {oa ob : Out} (hc : PT X c (tTd cl ρ t)) (ha : t = true → PSs X sa (tSd cl ρ ws oa)) (hb : t = false → PSs X sb (tSd cl ρ ws' ob)) :
    PS X (.If c sa sb pos) (tSd cl ρ (ws ++ ws') (if t = true then oa else ob)) := by
  cases t with
  | true => exact ps_imp (ps_if hc (ha rfl) pss_never) fun D σ H ⟨H0, F, S, q⟩ => ⟨H0, F, S, fun H1 s1 => by
      rw [if_pos rfl] at q ⊢
      exact ⟨H0, F, S.step s1, PostO.sub q fun j hj => List.mem_append_left _ hj⟩⟩
  | false => exact ps_imp (ps_if hc pss_never (hb rfl)) fun D σ H ⟨H0, F, S, q⟩ => ⟨H0, F, S, fun H1 s1 => by
      rw [if_neg Bool.false_ne_true] at q ⊢
      exact ⟨H0, F, S.step s1, PostO.sub q fun j hj => List.mem_append_right _ hj⟩⟩
end
section
variable {cl : Nat → Addr} {H0 H H1 Hb : Hp} {ρ ρl ρ1 : Env} {F : Nat → List Addr} {σ : L2.St} {k : Kd} {fp : List Addr}
theorem lent_of (ρ : Env) (k : Kd) : Lent ρ (lendTo ρ k) := by
  cases k with
  | old => exact ⟨rfl, fun _ _ _ h => .inl h⟩
  | bor => exact ⟨rfl, fun _ _ _ h => .inl h⟩
  | sto is =>
    refine ⟨by simp [lendTo], fun j d o h => ?_⟩
    simp only [lendTo] at h
    rw [List.getElem?_mapIdx] at h
    cases e : ρ[j]? with
    | none => rw [e] at h; cases h
    | some y =>
      rw [e] at h
      simp only [Option.map_some, Option.some.injEq] at h
      by_cases hj : is.contains j = true
      · rw [if_pos hj] at h
        cases y with
        | none => cases h
        | some p =>
          obtain ⟨d', o'⟩ := p
          cases h
          cases o' with
          | true => exact .inr ⟨rfl, rfl⟩
          | false => exact .inl rfl
      · rw [if_neg hj] at h
        rw [h]
        exact .inl rfl
theorem lent_off {is : List Nat} {j : Nat} {d : D} (h : (lendTo ρ (.sto is))[j]? = some (some (d, true))) : j ∉ is := fun hj => by
  simp only [lendTo] at h
  rw [List.getElem?_mapIdx] at h
  cases e : ρ[j]? with
  | none => rw [e] at h; injection h
  | some y =>
    rw [e] at h
    simp only [Option.map_some, Option.some.injEq] at h
    rw [if_pos (by simpa using hj)] at h
    cases y with
    | none => injection h
    | some p => obtain ⟨d', o'⟩ := p; cases h
theorem walk_off (S : SOK cl H0 ρ F σ H) (hk : KOk ρ F H H0 H1 fp k) (hn : noBor k = true) (s1 : Same H H1) : ∀ b ∈ fp, reb H1 (lendTo ρ k) F b = H1 b := fun b hb => reb_else fun l x hl hal => by
  have L := lent_of ρ k
  obtain ⟨o2, h3, h4⟩ := L.get hl
  have h3 : ρ[l]? = some (some (x, true)) := by rw [h3, h4 rfl]
  cases k with
  | bor => injection hn
  | old => exact hk b hb ((S.own l x h3).2 b hal).1
  | sto is =>
    rcases hk.2.2.1 b hb with z | ⟨i, hi, z⟩
    · exact S.dom h3 b hal z
    · obtain ⟨di, ei⟩ := hk.2.1 i hi
      have hli : l ≠ i := fun q => lent_off (q ▸ hl) hi
      exact S.dis l i x di true hli h3 ei b hal z
theorem reb_sub (S : SOK cl H0 ρ F σ H) (L : Lent ρ ρl) {a : Addr} (ha : H0 a ≠ none) : reb H ρl F a = H0 a := by
  cases q : H0 a with
  | none => exact absurd q ha
  | some o =>
    rw [reb_else fun l x hl hal => ?_]
    · exact S.same a o q
    · obtain ⟨o2, h3, h4⟩ := L.get hl
      have h3 : ρ[l]? = some (some (x, true)) := by rw [h3, h4 rfl]
      have := ((S.own l x h3).2 a hal).1
      rw [q] at this
      injection this
theorem reb_tup (S : SOK cl H0 ρ F σ H) (L : Lent ρ ρl) {a : Addr} {vs : List V} (h : H a = some (.tup vs)) : reb H ρl F a = some (.tup vs) := by
  rw [reb_else fun l x hl hal => ?_]
  · exact h
  · obtain ⟨o2, h3, h4⟩ := L.get hl
    obtain ⟨v, _, r⟩ := S.rep l x o2 h3
    exact r.notup a hal vs h
theorem SOK.item {d : D} {x : V} {f : List Addr} {i : Nat} (S : SOK cl Hb ρ F σ H) (r : Rep cl H d x f) (ho : ∀ a ∈ f, Hb a ≠ none) (e : bindTg ρ [i] true d .old = some ρ1) : ∃ F', SOK cl Hb ρ1 F' (σ.set i (some x)) H := by
  refine S.set (Same.refl H) r ?_ (show setSlot ρ i d (partK d .old) = some ρ1 from e)
  show KOk ρ F H Hb H f (if d.imm = true then .sto [] else .old)
  by_cases hi : d.imm = true
  · rw [if_pos hi]; exact KOk.imm r hi
  · rw [if_neg hi]; exact ho
end
def BindOk (cl : Nat → Addr) (tg : List Nat) (one : Bool) (g : TG) : Prop :=
  ∀ (Hb : Hp) (ρ ρ1 : Env) (F : Nat → List Addr) (σ : L2.St) (H : Hp) (x : V) (d : D) (f : List Addr), SOK cl Hb ρ F σ H → Rep cl H d x f → (∀ a ∈ f, Hb a ≠ none) → bindTg ρ tg one d .old = some ρ1 →
    ∀ Q : L2.St → Hp → Prop, (∀ σ2 F2, SOK cl Hb ρ1 F2 σ2 H → σ2.length = σ.length → (∀ j, j ∉ tg → σ2[j]? = σ[j]?) → Q σ2 H) → g x σ H Q
theorem bind_one {cl : Nat → Addr} {i : Nat} : BindOk cl [i] true (gName i) := fun Hb ρ ρ1 F σ H x d f S r ho e Q q => by
  obtain ⟨F', S'⟩ := S.item r ho e
  exact q _ F' S' List.length_set fun j hj => List.getElem?_set_ne fun z => hj (by rw [z]; exact List.mem_singleton.mpr rfl)
inductive FW (cl : Nat → Addr) (B : Hp) (t : Env → D → Out) (xs : List D) (R0 : Out) (ws : List Nat) (σ : L2.St) (i : Nat) (σ' : L2.St) (H' : Hp) : Prop
  | mk (ρi : Env) (Fi : Nat → List Addr) (S : SOK cl B ρi Fi σ' H') (e : forL t (xs.drop i) ρi = R0) (fr : ∀ j, j ∉ ws → σ'[j]? = σ[j]?)
section
variable {X : Cx} {cl : Nat → Addr} {H0 H H1 : Hp} {ρ : Env} {F : Nat → List Addr} {σ : L2.St} {k : Kd} {tg wb : List Nat} {one : Bool} {g : TG} {f : Env → Out} {xs : List D} {D' : Ends} {J : It}
theorem for_core (S1 : SOK cl H0 ρ F σ H1) (hB : BindOk cl tg one g)
    (hgo : ∀ i H', Same (reb H1 (lendTo ρ k) F) H' → i < xs.length → J.go i H')
    (hyd : ∀ i H' x H'', Same (reb H1 (lendTo ρ k) F) H' → J.yld i H' x H'' → i < xs.length → Same H' H'' ∧ ∃ d fd, xs[i]? = some d ∧ Rep cl H'' d x fd ∧ ∀ b ∈ fd, reb H1 (lendTo ρ k) F b ≠ none)
    (hst : ∀ i H', Same (reb H1 (lendTo ρ k) F) H' → xs.length ≤ i → J.stop i H')
    (q : PostO cl H0 σ (tg ++ wb) D' (restO ρ (lendTo ρ k) (tg ++ wb) (forL (turnD tg one f) xs (lendTo ρ k)))) :
    ∃ W : Nat → Nat → L2.St → Hp → Prop, (∃ m, W 0 m σ H1) ∧ ∀ i m σ H, W i m σ H →
      (J.stop i H ∧ D'.nx σ H) ∨ (J.go i H ∧ ∃ N : L2.St → Hp → Prop, (∀ σ' H', N σ' H' → ∃ m', m' < m ∧ W (i + 1) m' σ' H') ∧
        ∀ x H', J.yld i H x H' → g x σ H' fun σ2 H2 => ∃ ρ2, tSd cl ρ2 wb (f ρ2) { D' with nx := N, ct := N, bk := D'.nx } σ2 H2) := by
  have L := lent_of ρ k
  have R := S1.rebase L
  have back : ∀ {ρ' : Env} {F' : Nat → List Addr} {σ' : L2.St} {H' : Hp}, SOK cl (reb H1 (lendTo ρ k) F) ρ' F' σ' H' → (∀ j, j ∉ tg ++ wb → σ'[j]? = σ[j]?) → PostO cl H0 σ (tg ++ wb) D' (.nx (rest ρ (lendTo ρ k) ρ' (tg ++ wb))) → D'.nx σ' H' := fun {ρ' F' σ' H'} S' fr q => by
    obtain ⟨F'', S''⟩ := S1.restore L S' fr
    exact q σ' H' F'' S'' fr
  refine ⟨fun i m σ' H' => m = xs.length - i ∧ i ≤ xs.length ∧ FW cl (reb H1 (lendTo ρ k) F) (turnD tg one f) xs (forL (turnD tg one f) xs (lendTo ρ k)) (tg ++ wb) σ i σ' H',
    ⟨xs.length, rfl, Nat.zero_le _, lendTo ρ k, F, R, rfl, fun _ _ => rfl⟩, ?_⟩
  intro i m σ' H' hh_
  obtain ⟨em, hi, hh_⟩ := hh_
  obtain ⟨ρi, Fi, Si, e, fr⟩ := hh_
  subst em
  by_cases hlt : i < xs.length
  · refine .inr ⟨hgo i H' Si.same hlt, FW cl (reb H1 (lendTo ρ k) F) (turnD tg one f) xs (forL (turnD tg one f) xs (lendTo ρ k)) (tg ++ wb) σ (i + 1),
      fun σ2 H2 h => ⟨xs.length - (i + 1), by (clear S1 hB hgo hyd hst q L R back hi Si e fr h; omega), rfl, hlt, h⟩, fun x H'' y => ?_⟩
    obtain ⟨eH, d, fd, ed, rd, hd⟩ := hyd i H' x H'' Si.same y hlt
    have Si := Si.step eH
    have edrop : xs.drop i = d :: xs.drop (i + 1) := by
      rw [List.drop_eq_getElem_cons hlt]
      rw [List.getElem?_eq_getElem hlt] at ed
      rw [Option.some.inj ed]
    rw [edrop] at e
    rw [← e] at q
    cases hb : bindTg ρi tg one d .old with
    | none =>
      have ht : turnD tg one f ρi d = .bad := by unfold turnD; rw [hb]
      simp only [forL, ht] at q
      exact (show False from q).elim
    | some ρ1 =>
      have ht : turnD tg one f ρi d = f ρ1 := by unfold turnD; rw [hb]
      refine hB _ ρi ρ1 Fi σ' H'' x d fd Si rd hd hb _ fun σ2 F2 S2 _ fr2 => ⟨ρ1, _, F2, S2, ?_⟩
      have fr3 : ∀ {σ3 : L2.St}, (∀ j, j ∉ wb → σ3[j]? = σ2[j]?) → ∀ j, j ∉ tg ++ wb → σ3[j]? = σ[j]? := fun {σ3} h3 j hj =>
        ((h3 j fun z => hj (List.mem_append_right _ z)).trans (fr2 j fun z => hj (List.mem_append_left _ z))).trans (fr j hj)
      cases hf : f ρ1 with
      | nx ρ2 =>
        simp only [forL, ht, hf] at e
        exact fun σ3 H3 F3 S3 h3 => ⟨ρ2, F3, S3, e, fr3 h3⟩
      | ct ρ2 =>
        simp only [forL, ht, hf] at e
        exact fun σ3 H3 F3 S3 h3 => ⟨ρ2, F3, S3, e, fr3 h3⟩
      | bk ρ2 =>
        simp only [forL, ht, hf] at q
        exact fun σ3 H3 F3 S3 h3 => back S3 (fr3 h3) q
      | rt x =>
        simp only [forL, ht, hf] at q
        refine fun v H3 fp s3 r3 n3 h3 => q v H3 fp (fun b o hbo => s3 b o ((reb_sub S1 L (by rw [hbo]; simp)).trans hbo)) r3 n3 fun a ha => ⟨?_, (h3 a ha).2⟩
        have z := (h3 a ha).1
        cases qa : H0 a with
        | none => rfl
        | some y =>
          have := reb_sub S1 L (a := a) (by rw [qa]; simp)
          rw [z, qa] at this
          injection this
      | ex x => simp only [forL, ht, hf] at q; exact (show False from q).elim
      | bad => simp only [forL, ht, hf] at q; exact (show False from q).elim
  · have ei : i = xs.length := by (clear S1 hB hgo hyd hst q L R back Si e fr; omega)
    refine .inl ⟨hst i H' Si.same (by exact Nat.not_lt.mp ‹_›), ?_⟩
    subst ei
    rw [List.drop_length] at e
    rw [← e] at q
    exact back Si fr q
end
section
variable {X : Cx} {cl : Nat → Addr} {H0 H H1 : Hp} {ρ : Env} {F : Nat → List Addr} {σ : L2.St} {k : Kd} {tg : List Nat} {one : Bool} {g : TG} {xs : List D} {J : It}
theorem SOK.allOld (S : SOK cl H0 ρ F σ H1) : SOK cl H1 (ρ.map fun e => e.map fun p => (p.1, false)) F σ H1 := by
  have look : ∀ {j : Nat} {d : D} {o : Bool}, (ρ.map fun e => e.map fun (p : D × Bool) => (p.1, false))[j]? = some (some (d, o)) → o = false ∧ ∃ o', ρ[j]? = some (some (d, o')) := fun {j d o} h => by
    rw [List.getElem?_map] at h
    cases e : ρ[j]? with
    | none => rw [e] at h; injection h
    | some y =>
      rw [e] at h
      cases y with
      | none => (injection h with h; injection h)
      | some p => obtain ⟨d', o'⟩ := p; cases h; exact ⟨rfl, o', rfl⟩
  refine ⟨Same.refl _, by simpa using S.len, fun j d o h => ?_, fun j d h => ?_, fun i j d e o hij h h' => ?_, fun j d h => ?_⟩
  · obtain ⟨_, o', e⟩ := look h
    exact S.rep j d o' e
  · cases (look h).1
  · cases (look h).1
  · obtain ⟨_, o', e⟩ := look h
    exact S.dom e
theorem SOK.frame {σ' : L2.St} (S : SOK cl H0 ρ F σ H) (hl : σ'.length = σ.length) (h : ∀ (i : Nat) (x : D × Bool), ρ[i]? = some (some x) → σ'[i]? = σ[i]?) : SOK cl H0 ρ F σ' H :=
  ⟨S.same, hl.trans S.len, fun i d o e => by obtain ⟨v, h1, r⟩ := S.rep i d o e; exact ⟨v, by rw [h i _ e]; exact h1, r⟩, S.own, S.dis, S.old⟩
theorem forget_frame : ∀ {ow : List Nat} {σ : L2.St} {j : Nat}, j ∉ ow → (forget ow σ)[j]? = σ[j]? := by
  intro x_0
  induction x_0 with
  | nil =>
    intro _ _ _
    exact rfl
  | cons i r ih_ =>
    intro σ j h
    show (forget r (σ.set i none))[j]? = _
    rw [ih_ fun z => h (List.mem_cons_of_mem _ z), List.getElem?_set_ne fun z => h (by rw [z]; exact List.mem_cons_self)]
theorem inComp_off {j : Nat} {x : D × Bool} (h : (inComp ρ tg)[j]? = some (some x)) : j ∉ tg := (drop_get h).2
theorem SOK.inComp (S : SOK cl H0 ρ F σ H1) : SOK cl H1 (inComp ρ tg) F (forget tg σ) H1 :=
  SOK.frame (S.allOld.drop tg) (forget_len _ _) fun i x e => forget_frame (inComp_off e)
theorem RepL.snoc {H : Hp} {l : List D} {vs : List V} {f g : List Addr} {d : D} {v : V} (h : RepL cl H l vs f) (r : Rep cl H d v g) : RepL cl H (l ++ [d]) (vs ++ [v]) (f ++ g) := by
  refine h.append ?_
  unfold RepL
  exact ⟨v, [], g, [], rfl, by simp, r, by unfold RepL; exact ⟨rfl, rfl⟩⟩
theorem compL_cons {f : D → R (Option (D × Kd))} {d : D} {r rs : List D} {b : Bool} (h : compL f (d :: r) = .ok (rs, b)) : (f d = .ok none ∧ compL f r = .ok (rs, b)) ∨
    ∃ y k rs' b', f d = .ok (some (y, k)) ∧ compL f r = .ok (rs', b') ∧ rs = y :: rs' ∧ (k = .sto [] ∧ b = b' ∨ k = .old ∧ b = false) := by
  cases hd : f d with
  | ok o =>
    cases o with
    | none => simp only [compL, hd] at h; exact .inl ⟨rfl, h⟩
    | some yk =>
      obtain ⟨y, k⟩ := yk
      cases k with
      | bor => simp only [compL, hd] at h; injection h
      | old =>
        simp only [compL, hd] at h
        cases hc : compL f r with
        | ok p =>
          obtain ⟨p1, p2⟩ := p
          rw [hc] at h
          injection h with h; injection h with h1 h2
          exact .inr ⟨y, _, p1, p2, rfl, rfl, h1.symm, .inr ⟨rfl, h2.symm⟩⟩
        | ex z => rw [hc] at h; injection h
        | bad => rw [hc] at h; injection h
      | sto is =>
        cases is with
        | cons _ _ => simp only [compL, hd] at h; injection h
        | nil =>
          simp only [compL, hd] at h
          cases hc : compL f r with
          | ok p =>
            obtain ⟨p1, p2⟩ := p
            rw [hc] at h
            injection h with h; injection h with h1 h2
            exact .inr ⟨y, _, p1, p2, rfl, rfl, h1.symm, .inl ⟨rfl, h2.symm⟩⟩
          | ex z => rw [hc] at h; injection h
          | bad => rw [hc] at h; injection h
  | ex z => simp only [compL, hd] at h; injection h
  | bad => simp only [compL, hd] at h; injection h
theorem turnC_ok {c : Env → R Bool} {el : Env → R (D × Kd)} {d : D} {o : Option (D × Kd)} (h : turnC ρ tg one c el d = .ok o) :
    ∃ ρ1, bindTg (inComp ρ tg) tg one d .old = some ρ1 ∧ ((c ρ1 = .ok false ∧ o = none) ∨ (c ρ1 = .ok true ∧ ∃ y, el ρ1 = .ok y ∧ o = some y)) := by
  unfold turnC at h
  cases hb : bindTg (inComp ρ tg) tg one d .old with
  | none => rw [hb] at h; injection h
  | some ρ1 =>
    rw [hb] at h
    refine ⟨ρ1, rfl, ?_⟩
    cases hc : c ρ1 with
    | ok t =>
      cases t with
      | false => simp only [hc] at h; injection h with h; exact .inl ⟨rfl, h.symm⟩
      | true =>
        simp only [hc] at h
        cases he : el ρ1 with
        | ok y => rw [he] at h; injection h with h; exact .inr ⟨rfl, y, rfl, h.symm⟩
        | ex z => rw [he] at h; injection h
        | bad => rw [he] at h; injection h
    | ex z => simp only [hc] at h; injection h
    | bad => simp only [hc] at h; injection h
inductive CW (cl : Nat → Addr) (H1 : Hp) (ρ : Env) (σ : L2.St) (tg : List Nat) (f : D → R (Option (D × Kd))) (xs all : List D) (b : Bool) (a : Addr) (i m : Nat) (ys : List V) (σ2 : L2.St) (H2 : Hp) : Prop
  | mk (em : m = xs.length - i) (hi : i ≤ xs.length) (s2 : Same H1 H2) (h2 : H2 a = some (.lst ys)) (hyl : ys.length ≤ i) (hlen : σ2.length = σ.length) (fr : ∀ j, j ∉ tg → σ2[j]? = (forget tg σ)[j]?)
    (done : List D) (fpd : List Addr) (b0 : Bool) (rs : List D) (b1 : Bool) (rd : RepL cl H2 done ys fpd) (naf : a ∉ fpd) (hb0 : b0 = true → fpd.Nodup ∧ ∀ x ∈ fpd, H1 x = none ∧ NF H2 x) (hrs : compL f (xs.drop i) = .ok (rs, b1)) (eall : all = done ++ rs) (eb : b = (b0 && b1))
theorem comp_core {cnd : Env → R Bool} {el : Env → R (D × Kd)} {tc : TT} {te : TE} {all : List D} {b : Bool} {Q : VK} (S1 : SOK cl H0 ρ F σ H1) (s1 : Same H H1) (hB : BindOk cl tg one g)
    (hgo : ∀ i H', Same H1 H' → i < xs.length → J.go i H')
    (hyd : ∀ i H' x H'', Same H1 H' → J.yld i H' x H'' → i < xs.length → Same H' H'' ∧ ∃ d fd, xs[i]? = some d ∧ Rep cl H'' d x fd ∧ ∀ b ∈ fd, H1 b ≠ none)
    (hst : ∀ i H', Same H1 H' → xs.length ≤ i → J.stop i H') (hl : xs.length ≤ 1000000)
    (hT : ∀ ρ t σ H Q, cnd ρ = .ok t → tTd cl ρ t σ H Q → tc σ H Q) (hE : ∀ ρ d k σ H Q, el ρ = .ok (d, k) → tD cl ρ d k σ H Q → te σ H Q)
    (hr : compL (turnC ρ tg one cnd el) xs = .ok (all, b))
    (q : ∀ v H' fp, Same H H' → Rep cl H' (.lst all) v fp → KOk ρ F H H0 H' fp (if b = true then .sto [] else .bor) → Q v H') :
    ∀ a, H1 a = none → ∃ W : Nat → Nat → List V → L2.St → Hp → Prop, (∃ m, W 0 m [] (forget tg σ) (upd H1 a (.lst []))) ∧ ∀ i m ys σ2 H2, W i m ys σ2 H2 →
      H2 a = some (.lst ys) ∧ ((J.stop i H2 ∧ Q (.ref a) H2) ∨ (J.go i H2 ∧ ∀ x H3, J.yld i H2 x H3 → g x σ2 H3 fun σ4 H4 => tc σ4 H4 fun b H5 =>
        if b = true then te σ4 H5 fun y H6 => H6 a = some (.lst ys) ∧ ys.length < sizeLine ∧ ∃ m', m' < m ∧ W (i + 1) m' (ys ++ [y]) σ4 (upd H6 a (.lst (ys ++ [y])))
        else ∃ m', m' < m ∧ W (i + 1) m' ys σ4 H5)) := by
  intro a ha
  have S0 := S1.inComp (tg := tg)
  refine ⟨CW cl H1 ρ σ tg (turnC ρ tg one cnd el) xs all b a,
    ⟨xs.length, rfl, Nat.zero_le _, Same.new ha, upd_same, Nat.le_refl _, forget_len _ _, fun _ _ => rfl, [], [], true, all, b, by unfold RepL; exact ⟨rfl, rfl⟩, List.not_mem_nil, fun _ => ⟨List.nodup_nil, fun _ h => nomatch h⟩, hr, rfl, rfl⟩, fun i m ys σ2 H2 h => zw fun P_ k_ => ?_⟩
  obtain ⟨em, hi, s2, h2, hyl, hlen, fr, done, fpd, b0, rs, b1, rd, naf, hb0, hrs, eall, eb⟩ := h
  subst em
  refine k_ ⟨h2, ?_⟩
  clear k_ P_
  by_cases hlt : i < xs.length
  · refine .inr ⟨hgo i H2 s2 hlt, fun x H3 y => zw fun P_ k_ => ?_⟩
    obtain ⟨eH, d, fd, ed, rx, hd⟩ := hyd i H2 x H3 s2 y hlt
    replace hb0 : b0 = true → fpd.Nodup ∧ ∀ x ∈ fpd, H1 x = none ∧ NF H3 x := fun hb => ⟨(hb0 hb).1, fun x hx => ⟨((hb0 hb).2 x hx).1, ((hb0 hb).2 x hx).2.same eH (rd.dom x hx)⟩⟩
    replace rd := rd.same eH
    replace h2 := eH a _ h2
    replace s2 := s2.trans eH
    have edrop : xs.drop i = d :: xs.drop (i + 1) := by
      rw [List.drop_eq_getElem_cons hlt]
      rw [List.getElem?_eq_getElem hlt] at ed
      rw [Option.some.inj ed]
    rw [edrop] at hrs
    have S2 : SOK cl H1 (inComp ρ tg) F σ2 H3 := SOK.frame (S0.step s2) (by rw [hlen, forget_len]) fun i x e => fr i (inComp_off e)
    rcases compL_cons hrs with ⟨ht, hrs⟩ | ⟨yd, ky, rs', b', ht, hrs, ers, kinds⟩
    · obtain ⟨ρ1, hb, ⟨hcn, _⟩ | ⟨_, _, _, e⟩⟩ := turnC_ok ht
      · exact k_ <| hB H1 _ ρ1 F σ2 H3 x d fd S2 rx hd hb _ fun σ4 F4 S4 len4 fr4 => hT ρ1 false σ4 H3 _ hcn ⟨H1, F4, S4, fun H5 s5 => iteF ⟨xs.length - (i + 1), Nat.sub_succ_lt_self _ _ hlt, rfl, hlt, s2.trans s5, s5 a _ h2, Nat.le_succ_of_le hyl, len4.trans hlen, fun j hj => (fr4 j hj).trans (fr j hj), done, fpd, b0, rs, b1, rd.same s5, naf, fun hb => ⟨(hb0 hb).1, fun x hx => ⟨((hb0 hb).2 x hx).1, ((hb0 hb).2 x hx).2.same s5 (rd.dom x hx)⟩⟩, hrs, eall, eb⟩⟩
      · injection e
    · obtain ⟨ρ1, hb, ⟨_, e⟩ | ⟨hcn, _, hel, e⟩⟩ := turnC_ok ht
      · injection e
      injection e with e
      subst e
      refine k_ <| hB H1 _ ρ1 F σ2 H3 x d fd S2 rx hd hb _ fun σ4 F4 S4 len4 fr4 => hT ρ1 true σ4 H3 _ hcn ⟨H1, F4, S4, fun H5 s5 => iteT (hE ρ1 yd ky σ4 H5 _ hel ⟨H1, F4, S4.step s5, fun v H6 fp s6 r6 k6 => ?_⟩)⟩
      have ha6 : H6 a = some (.lst ys) := s6 a _ (s5 a _ h2)
      have nafp : a ∉ fp := fun z => by
        rcases kinds with ⟨e, _⟩ | ⟨e, _⟩
        · subst e
          rcases k6.2.2.1 a z with w | ⟨_, w, _⟩
          · rw [s5 a _ h2] at w; injection w
          · cases w
        · subst e
          exact k6 a z ha
      have ne : ∀ c ∈ fpd ++ fp, c ≠ a := fun c hc e => by
        rw [e] at hc
        exact (List.mem_append.mp hc).elim naf nafp
      have s26 : Same H3 H6 := s5.trans s6
      have nn : a ∉ fpd ++ fp := fun z => (List.mem_append.mp z).elim naf nafp
      have fin : ∃ c0 c1, (c0 = true → (fpd ++ fp).Nodup ∧ ∀ x ∈ fpd ++ fp, H1 x = none ∧ NF (upd H6 a (.lst (ys ++ [v]))) x) ∧ compL (turnC ρ tg one cnd el) (xs.drop (i + 1)) = .ok (rs', c1) ∧ b = (c0 && c1) := by
        rcases kinds with ⟨e, e1⟩ | ⟨e, e1⟩
        · subst e
          refine ⟨b0, b', fun hb => ?_, hrs, e1 ▸ eb⟩
          have m3 := k6.2.2.1
          have fresh : ∀ x ∈ fp, H5 x = none := fun x hx => (m3 x hx).elim id fun w => by obtain ⟨_, w, _⟩ := w; cases w
          refine ⟨List.nodup_append.mpr ⟨(hb0 hb).1, k6.1, fun x hx y hy e => (rd.same s5).dom x hx (fresh x (e ▸ hy))⟩, fun x hx => ?_⟩
          rcases List.mem_append.mp hx with z | z
          · exact ⟨((hb0 hb).2 x z).1, fun o u w => (((hb0 hb).2 x z).2.same s26 (rd.dom x z)) o u ((upd_ne (ne x hx)).symm.trans w)⟩
          · exact ⟨(s2.trans s5).free (fresh x z), fun o u w => k6.2.2.2 x z o u ((upd_ne (ne x hx)).symm.trans w)⟩
        · exact ⟨false, b', fun hb => Bool.noConfusion hb, hrs, by rw [eb, e1, Bool.and_false]; rfl⟩
      obtain ⟨c0, c1, f1, f2, f3⟩ := fin
      exact ⟨ha6, Nat.lt_of_le_of_lt hyl (Nat.lt_of_lt_of_le hlt (size_ok hl)), xs.length - (i + 1), Nat.sub_succ_lt_self _ _ hlt, rfl, hlt, fun c o e => by
        rw [upd_ne (ne_of_none e ha)]; exact s26 c o (s2 c o e), upd_same, by rw [List.length_append]; exact Nat.succ_le_succ hyl, len4.trans hlen, fun j hj => (fr4 j hj).trans (fr j hj), done ++ [yd], fpd ++ fp, c0, rs', c1,
        ((rd.same s26).snoc r6).keep ⟨fun c hc => upd_ne (ne c hc), fun c vs e => (upd_ne fun z => by rw [z, ha6] at e; (injection e with e; injection e)).trans e⟩, nn, f1, f2, by rw [eall, ers, List.append_assoc]; rfl, f3⟩
  · have ei : i = xs.length := by (clear S1 s1 hB hgo hyd hst hl hT hE hr q ha S0 s2 h2 hyl hlen fr rd naf hb0 hrs eall eb; omega)
    subst ei
    rw [List.drop_length] at hrs
    simp only [compL, R.ok.injEq, Prod.mk.injEq] at hrs
    obtain ⟨ers, eb1⟩ := hrs
    subst ers; subst eb1
    rw [List.append_nil] at eall
    subst eall
    refine .inl ⟨hst _ H2 s2 (Nat.le_refl _), q (.ref a) H2 (a :: fpd) (s1.trans s2) ?_ ?_⟩
    · unfold Rep
      exact ⟨a, ys, fpd, rfl, rfl, rd, .inl h2⟩
    · have eb' : b = b0 := by rw [eb]; simp
      rw [eb']
      cases b0 with
      | false => rw [if_neg Bool.false_ne_true]; exact True.intro
      | true =>
        rw [if_pos rfl]
        obtain ⟨n1, n2⟩ := hb0 rfl
        refine ⟨List.nodup_cons.mpr ⟨naf, n1⟩, fun _ h => (nomatch h), fun x hx => .inl ?_, fun x hx => ?_⟩
        · rcases List.mem_cons.mp hx with z | z
          · rw [z]; exact s1.free ha
          · exact s1.free (n2 x z).1
        · rcases List.mem_cons.mp hx with z | z
          · rw [z]; intro o u w; rw [h2] at w; (injection w with w; injection w)
          · exact (n2 x z).2
end
structure JOk (cl : Nat → Addr) (J : It) (xs : List D) (B : Hp) : Prop where
  go : ∀ i H', Same B H' → i < xs.length → J.go i H'
  yld : ∀ i H' x H'', Same B H' → J.yld i H' x H'' → i < xs.length → Same H' H'' ∧ ∃ d fd, xs[i]? = some d ∧ Rep cl H'' d x fd ∧ ∀ b ∈ fd, B b ≠ none
  stop : ∀ i H', Same B H' → xs.length ≤ i → J.stop i H'
inductive tI (cl : Nat → Addr) (ρ : Env) (xs : List D) (k : Kd) (σ : L2.St) (H : Hp) (R : It → Hp → Prop) : Prop
  | mk (H0 : Hp) (F : Nat → List Addr) (S : SOK cl H0 ρ F σ H) (q : ∀ J H1 fp, Same H H1 → KOk ρ F H H0 H1 fp k →
    (∀ B : Hp, (∀ b ∈ fp, B b = H1 b) → (∀ a vs, H1 a = some (.tup vs) → B a = some (.tup vs)) → JOk cl J xs B) → R J H1)
theorem pi_imp {X : Cx} {tg iter : Expr} {t t' : TI} (h : PI X tg iter t) (i : ∀ σ H R, t' σ H R → t σ H R) : PI X tg iter t' := fun pins s σ H R I q => h pins s σ H R I (i σ H R q)
section
variable {X : Cx} {cl : Nat → Addr} {ρ : Env} {k : Kd} {tg wb : List Nat} {one : Bool} {g : TG} {f : Env → Out} {xs : List D} {tgE iter : Expr}
theorem i_list (hi : PE X iter (tD cl ρ (.lst xs) k)) : PI X tgE iter (tI cl ρ xs k) :=
  pi_imp (pi_list hi) fun σ H R ⟨H0, F, S, q⟩ => ⟨H0, F, S, fun x H1 fp s1 r1 q1 => by
    obtain ⟨a, vs, f', e, ef, r, hpp⟩ := r1
    have rd0 : SqL X.K H1 a vs := by
      rcases hpp with h | ⟨o, h⟩
      · exact .inl (.inl h)
      · exact .inl (.inr ⟨o, h⟩)
    refine ⟨a, e, ⟨vs, rd0⟩, q _ H1 fp s1 q1 fun B hB tB => ?_⟩
    have rd : ∀ {H' : Hp}, Same B H' → SqL X.K H' a vs := fun {H'} s => by
      have e1 : B a = H1 a := hB a (by rw [ef]; exact List.mem_cons_self)
      rcases hpp with h | ⟨o, h⟩
      · exact .inl (.inl (s a _ (e1.trans h)))
      · exact .inl (.inr ⟨o, s a _ (e1.trans h)⟩)
    refine ⟨fun i H' s hlt => ?_, fun i H' x H'' s y hlt => ?_, fun i H' s hle => ⟨vs, rd s, by rw [r.len]; exact hle⟩⟩
    · have hv : i < vs.length := by rw [r.len]; exact hlt
      exact ⟨vs, vs[i], rd s, by rw [List.getElem?_eq_getElem hv]⟩
    · obtain ⟨eH, y⟩ := y
      subst eH
      obtain ⟨v, fv, e1, e2, e3⟩ := r.get (List.getElem?_eq_getElem hlt)
      have e4 := y vs (rd s)
      rw [e4] at e1
      (injection e1 with e1; subst e1)
      have offv : ∀ b ∈ fv, B b = H1 b := fun b hb => hB b (by rw [ef]; exact List.mem_cons_of_mem _ (e3 b hb))
      refine ⟨Same.refl _, xs[i], fv, List.getElem?_eq_getElem hlt, e2.keep ⟨fun b hb => ?_, fun b vs h => s b _ (tB b vs h)⟩, fun b hb => by rw [offv b hb]; exact e2.dom b hb⟩
      cases qb : H1 b with
      | none => exact absurd qb (e2.dom b hb)
      | some o => exact s b o ((offv b hb).trans qb)⟩
theorem i_tup (hi : PE X iter (tD cl ρ (.tup xs) k)) : PI X tgE iter (tI cl ρ xs k) :=
  pi_imp (pi_tup hi) fun σ H R ⟨H0, F, S, q⟩ => ⟨H0, F, S, fun x H1 fp s1 r1 q1 => by
    obtain ⟨a, vs, e, hpp, r⟩ := r1
    refine ⟨a, e, ⟨vs, .inl (.inl hpp)⟩, q _ H1 fp s1 q1 fun B hB tB => ?_⟩
    have rd : ∀ {H' : Hp}, Same B H' → SqT X.K H' a vs := fun {H'} s => .inl (.inl (s a _ (tB a vs hpp)))
    refine ⟨fun i H' s hlt => ?_, fun i H' x H'' s y hlt => ?_, fun i H' s hle => ⟨vs, rd s, by rw [r.len]; exact hle⟩⟩
    · have hv : i < vs.length := by rw [r.len]; exact hlt
      exact ⟨vs, vs[i], rd s, by rw [List.getElem?_eq_getElem hv]⟩
    · obtain ⟨eH, y⟩ := y
      subst eH
      obtain ⟨v, fv, e1, e2, e3⟩ := r.get (List.getElem?_eq_getElem hlt)
      have e4 := y vs (rd s)
      rw [e4] at e1
      (injection e1 with e1; subst e1)
      have offv : ∀ b ∈ fv, B b = H1 b := fun b hb => hB b (e3 b hb)
      refine ⟨Same.refl _, xs[i], fv, List.getElem?_eq_getElem hlt, e2.keep ⟨fun b hb => ?_, fun b vs h => s b _ (tB b vs h)⟩, fun b hb => by rw [offv b hb]; exact e2.dom b hb⟩
      cases qb : H1 b with
      | none => exact absurd qb (e2.dom b hb)
      | some o => exact s b o ((offv b hb).trans qb)⟩
theorem intsFrom_len : ∀ (n : Nat) (a s : Int), (intsFrom a s n).length = n := by
  intro x_0
  induction x_0 with
  | zero =>
    intro _ _
    exact rfl
  | succ n ih_ =>
    intro a s
    show (intsFrom (a + s) s n).length + 1 = n + 1; rw [ih_]
theorem intsFrom_get : ∀ {n : Nat} {a s : Int} {i : Nat}, i < n → (intsFrom a s n)[i]? = some (.int (a + i * s))
  | n + 1, a, s, 0, _ => by show some (D.int a) = _; simp
  | n + 1, a, s, i + 1, h => by
    show (intsFrom (a + s) s n)[i]? = _
    rw [intsFrom_get (by exact Nat.le_of_lt_succ ‹_›)]
    congr 2
    have : ((i + 1 : Nat) : Int) = (i : Int) + 1 := by rfl
    rw [this, Int.add_mul]
    (clear h this; omega)
theorem j_range {cl : Nat → Addr} {a : Int} {n : Nat} {B : Hp} : JOk cl (Itr a n) (intsFrom a 1 n) B := by
  refine ⟨fun i H' _ h => by rw [intsFrom_len] at h; exact h, fun i H' x H'' _ y h => ?_, fun i H' _ h => by rw [intsFrom_len] at h; exact h⟩
  obtain ⟨e1, e2⟩ := y
  rw [intsFrom_len] at h
  subst e1
  refine ⟨Same.refl _, .int (a + i * 1), [], intsFrom_get h, ⟨by rw [e2]; simp, rfl⟩, fun b hb => nomatch hb⟩
theorem i_range1 {a : Expr} {n : Int} {p pos : Pos} (hg : Gl X "range") (hm : X.mg "range" = none) (ha : PA X [a] (tDs cl ρ [.int n] k)) (h1 : -(2 ^ 62) ≤ n ∧ n < 2 ^ 62) (hs : starEach [a] X.env = [(false, eval a X.env)]) :
    PI X tgE (.Call (.Name "range" p) [a] [] pos) (tI cl ρ (intsFrom 0 1 n.toNat) (.sto [])) :=
  pi_imp (pi_range1 hg hm ha hs) fun σ H R ⟨H0, F, S, q⟩ => ⟨H0, F, S, fun vs H1 fp s1 r1 q1 => by
    obtain ⟨v, vr, f1, f2, e, ef, r1, r2⟩ := r1
    refine ⟨n, by rw [e, r1.1, r2.1], h1.1, h1.2, q _ H1 [] s1 KOk.nil0 fun B _ _ => j_range⟩⟩
def teU (cl : Nat → Addr) (el : Env → R (D × Kd)) : TE := fun σ H Q => ∃ ρ d k, el ρ = .ok (d, k) ∧ tD cl ρ d k σ H Q
def tcU (cl : Nat → Addr) (cnd : Env → R Bool) : TT := fun σ H Q => ∃ ρ t, cnd ρ = .ok t ∧ tTd cl ρ t σ H Q
theorem s_for {body : List Stmt} {pos : Pos} (hp : PassesOwn (model X.prog X.w) X.A X.env X.xe) (hc : X.calm = true) (hi : PI X tgE iter (tI cl ρ xs k)) (hn : noBor k = true) (hg : PG X tgE g) (hB : BindOk cl tg one g)
    (hb : ∀ ρ, PSs X body (tSd cl ρ wb (f ρ))) (hs : ∀ x, foldedSetIterable iter X.env x = pure x) :
    PS X (.For tgE iter body [] pos) (tSd cl ρ (tg ++ wb) (restO ρ (lendTo ρ k) (tg ++ wb) (forL (turnD tg one f) xs (lendTo ρ k)))) := by
  have hb' : PSs X body (fun D σ H => ∃ ρ, tSd cl ρ wb (f ρ) D σ H) := fun pins s σ H Q I ⟨ρ, h⟩ => hb ρ pins s σ H Q I h
  refine ps_imp (ps_for hp hc hi hg hb' hs) fun D σ H ⟨H0, F, S, q⟩ => ⟨H0, F, S, fun J H1 fp s1 q1 j => ?_⟩
  have S1 := S.step s1
  have L := lent_of ρ k
  have jj := j (reb H1 (lendTo ρ k) F) (walk_off S q1 hn s1) fun a vs h => reb_tup S1 L h
  exact for_core S1 hB jj.go jj.yld jj.stop q
theorem e_comp {elt : Expr} {ifs : List Expr} {sc : Scope} {pos : Pos} {cnd : Env → R Bool} {el : Env → R (D × Kd)} {all : List D} {b : Bool} (hc : X.calm = true) (Sc : CompSc X sc)
    (how : ∀ (i : Nat) (x : Str), X.N[i]? = some x → sc.names.lookup x = some NameKind.local → i ∈ tg) (hi : PI X tgE iter (tI cl ρ xs k)) (hg : ∀ X', InC X sc X' → PG X' tgE g) (hB : BindOk cl tg one g) (hl : xs.length ≤ 1000000)
    (ht : (ifs = [] ∧ ∀ ρ t, cnd ρ = .ok t → t = true) ∨ ∃ c, ifs = [c] ∧ ∀ X', InC X sc X' → ∀ ρ t, cnd ρ = .ok t → PT X' c (tTd cl ρ t)) (he : ∀ X', InC X sc X' → ∀ ρ d k, el ρ = .ok (d, k) → PE X' elt (tD cl ρ d k))
    (hr : compL (turnC ρ tg one cnd el) xs = .ok (all, b)) (hs : ∀ x, foldedSetIterable iter X.env x = pure x) :
    PE X (.ListComp elt [⟨tgE, iter, ifs, 0⟩] sc pos) (tD cl ρ (.lst all) (if b = true then .sto [] else .bor)) := by
  have he' : ∀ X', InC X sc X' → PE X' elt (teU cl el) := fun X' hX pins s σ H Q I ⟨ρ, d, k, e, h⟩ => he X' hX ρ d k e pins s σ H Q I h
  have fin : ∀ (tc : TT), (∀ ρ t σ H Q, cnd ρ = .ok t → tTd cl ρ t σ H Q → tc σ H Q) → ∀ σ H Q, tD cl ρ (.lst all) (if b = true then .sto [] else .bor) σ H Q →
      tComp (tI cl ρ xs k) g tc (teU cl el) tg σ H Q := fun tc hT σ H Q ⟨H0, F, S, q⟩ => ⟨H0, F, S, fun J H1 fp s1 q1 j => by
    have jj := j H1 (fun _ _ => rfl) fun _ _ h => h
    exact comp_core (te := teU cl el) (S.step s1) s1 hB jj.go jj.yld jj.stop hl hT (fun ρ d k σ H Q e h => ⟨ρ, d, k, e, h⟩) hr q⟩
  rcases ht with ⟨e, ht⟩ | ⟨c, e, ht⟩
  · exact pe_imp (pe_comp tg hc Sc how hi hg (.inl ⟨e, rfl⟩) he' hs) (fin tAll fun ρ t σ H Q e ⟨_, _, _, q⟩ => by have := q H (Same.refl H); rw [ht ρ t e] at this; exact this)
  · exact pe_imp (pe_comp (tc := tcU cl cnd) tg hc Sc how hi hg (.inr ⟨c, e, fun X' hX pins s σ H Q I ⟨ρ, t, e, h⟩ => ht X' hX ρ t e pins s σ H Q I h⟩) he' hs) (fin (tcU cl cnd) fun ρ t σ H Q e h => ⟨ρ, t, e, h⟩)
theorem s_comp {elt : Expr} {ifs : List Expr} {sc : Scope} {pos spos py : Pos} {cnd : Env → R Bool} {el : Env → R (D × Kd)} {all : List D} {b : Bool} {i : Nat} {y : Str} (hc : X.calm = true) (hN : X.N.Nodup) (hj : X.N[i]? = some y) (hy : Loc X.env.scope y) (Sc : CompSc X sc)
    (how : ∀ (i : Nat) (x : Str), X.N[i]? = some x → sc.names.lookup x = some NameKind.local → i ∈ tg) (hi : PI X tgE iter (tI cl ρ xs k)) (hg : ∀ X', InC X sc X' → PG X' tgE g) (hB : BindOk cl tg one g) (hl : xs.length ≤ 1000000)
    (ht : (ifs = [] ∧ ∀ ρ t, cnd ρ = .ok t → t = true) ∨ ∃ c, ifs = [c] ∧ ∀ X', InC X sc X' → ∀ ρ t, cnd ρ = .ok t → PT X' c (tTd cl ρ t)) (he : ∀ X', InC X sc X' → ∀ ρ d k, el ρ = .ok (d, k) → PE X' elt (tD cl ρ d k))
    (hr : compL (turnC ρ tg one cnd el) xs = .ok (all, b)) (hsw : swapsWith (.ListComp elt [⟨tgE, iter, ifs, 0⟩] sc pos) (some (.Name y py)) spos.line X.env = pure true)
    (hf : X.fn y = true ∨ X.env.scope.names.lookup y = some .local) (hs : ∀ x, foldedSetIterable iter X.env x = pure x) :
    PS X (.Assign [.Name y py] (.ListComp elt [⟨tgE, iter, ifs, 0⟩] sc pos) spos) (tAsg (tD cl ρ (.lst all) (if b = true then .sto [] else .bor)) (gName i)) := by
  have he' : ∀ X', InC X sc X' → PE X' elt (teU cl el) := fun X' hX pins s σ H Q I ⟨ρ, d, k, e, h⟩ => he X' hX ρ d k e pins s σ H Q I h
  have fin : ∀ (tc : TT), (∀ ρ t σ H Q, cnd ρ = .ok t → tTd cl ρ t σ H Q → tc σ H Q) → ∀ D σ H, tAsg (tD cl ρ (.lst all) (if b = true then .sto [] else .bor)) (gName i) D σ H →
      tAsg (tComp (tI cl ρ xs k) g tc (teU cl el) tg) (gName i) D σ H := fun tc hT D σ H ⟨H0, F, S, q⟩ => ⟨H0, F, S, fun J H1 fp s1 q1 j => by
    have jj := j H1 (fun _ _ => rfl) fun _ _ h => h
    exact comp_core (te := teU cl el) (S.step s1) s1 hB jj.go jj.yld jj.stop hl hT (fun ρ d k σ H Q e h => ⟨ρ, d, k, e, h⟩) hr q⟩
  rcases ht with ⟨e, ht⟩ | ⟨c, e, ht⟩
  · exact ps_imp (ps_comp tg hc hN hj hy Sc how hi hg (.inl ⟨e, rfl⟩) he' hsw hf hs) (fin tAll fun ρ t σ H Q e ⟨_, _, _, q⟩ => by have := q H (Same.refl H); rw [ht ρ t e] at this; exact this)
  · exact ps_imp (ps_comp (tc := tcU cl cnd) tg hc hN hj hy Sc how hi hg (.inr ⟨c, e, fun X' hX pins s σ H Q I hh_ => (by obtain ⟨ρ, t, e, h⟩ := hh_; exact (ht X' hX ρ t e pins s σ H Q I h))⟩) he' hsw hf hs) (fin (tcU cl cnd) fun ρ t σ H Q e h => ⟨ρ, t, e, h⟩)
end
section
variable {cl : Nat → Addr} {H0 H H' : Hp} {ρ : Env} {F : Nat → List Addr} {σ : L2.St}
end
section
variable {X : Cx} {cl : Nat → Addr} {ρ : Env} {o e : Expr} {st : Stmt} {pos apos cpos : Pos} {d : D} {k : Kd} {i : Nat} {l ds : List D} {js is : List Nat}
theorem s_app (h : PS X st (tDrop (tBM X.K "list" rAppend (tVar i) (tCons (tD cl ρ d (.sto js)) tNil)))) (hl : ρ[i]? = some (some (.lst l, true))) (hc : l.length < 1000000 ∧ i ∉ js) :
    PS X st (tSd cl ρ [] (.nx ((js.foldl (fun t j => t.set j none) ρ).set i (some (.lst (l ++ [d]), true))))) :=
  ps_imp h fun D σ H ⟨H0, F, S, q⟩ => by
    obtain ⟨a, vs, f, hv, ha, eF, r⟩ := S.lst hl
    refine ⟨.ref a, hv, .inl ⟨rfl, vs, .inl (.inl ha)⟩, H0, F, S, fun y H1 g s1 r1 ⟨n1, o1, m1, z1⟩ => ?_⟩
    have ha1 := s1 a _ ha
    have nodF : (a :: f).Nodup := eF ▸ (S.own i _ hl).1
    have naf := (List.nodup_cons.mp nodF).1
    have offg : ∀ b ∈ F i, b ∉ g := fun b hb hg => by
      rcases m1 b hg with z | ⟨w, hw, z⟩
      · exact S.dom hl b hb z
      · obtain ⟨dl, el⟩ := o1 w hw
        exact S.dis i w _ dl true (fun q => hc.2 (q ▸ hw)) hl el b hb z
    have nag : a ∉ g := offg a (by rw [eF]; exact List.mem_cons_self)
    have ne : ∀ b ∈ f ++ g, b ≠ a := fun b hb z => by rw [z] at hb; exact (List.mem_append.mp hb).elim naf nag
    have kp : Keep (f ++ g) H1 (upd H1 a (.lst (vs ++ [y]))) := ⟨fun b hb => upd_ne (ne b hb), fun b ws z => by
      rw [upd_ne (fun w => by rw [w, ha1] at z; (injection z with z; injection z))]; exact z⟩
    have rl : RepL cl (upd H1 a (.lst (vs ++ [y]))) (l ++ [d]) (vs ++ [y]) (f ++ g) := ((r.same s1).snoc r1).keep kp
    obtain ⟨F', S'⟩ := S.mut (H' := upd H1 a (.lst (vs ++ [y]))) (d' := .lst (l ++ [d])) (fp := a :: (f ++ g)) (is := js) hl hv hc.2 o1 (by unfold Rep; exact ⟨a, _, _, rfl, rfl, rl, .inl upd_same⟩)
      (List.nodup_cons.mpr ⟨fun z => ne a z rfl, List.nodup_append.mpr ⟨(List.nodup_cons.mp nodF).2, n1, fun x hx y hy e => by subst e; exact offg x (by rw [eF]; exact List.mem_cons_of_mem _ hx) hy⟩⟩)
      (fun b hb => by
        rcases List.mem_cons.mp hb with z | z
        · rw [z, eF]; exact .inl List.mem_cons_self
        · rcases List.mem_append.mp z with z | z
          · rw [eF]; exact .inl (List.mem_cons_of_mem _ z)
          · exact .inr (m1 b z))
      (fun b hb o u z => by
        rcases List.mem_cons.mp hb with w | w
        · rw [w, upd_same] at z; (injection z with z; injection z)
        · rw [upd_ne (ne b w)] at z
          rcases List.mem_append.mp w with w | w
          · exact (((S.own i _ hl).2 b (by rw [eF]; exact List.mem_cons_of_mem _ w)).2.same s1 (S.dom hl b (by rw [eF]; exact List.mem_cons_of_mem _ w))) o u z
          · exact z1 b w o u z)
      (fun b hb hd => by
        rw [upd_ne (fun z => hb (by rw [z, eF]; exact List.mem_cons_self))]
        cases qb : H b with
        | none => exact absurd qb hd
        | some o => exact s1 b o qb)
      (fun b ws z => by
        have z1 := s1 b _ z
        rw [upd_ne (fun w => by rw [w, ha1] at z1; (injection z1 with z1; injection z1))]; exact z1)
    exact ⟨a, vs, y, rfl, rfl, ha1, by rw [r.len]; have := size_ok (n := l.length + 1) (by (clear h hl S q hv ha eF r s1 r1 n1 o1 m1 z1 ha1 nodF naf offg nag ne kp rl S'; omega)); assumption, q σ _ F' S' fun _ _ => rfl⟩
theorem mut_list {H0 H : Hp} {F : Nat → List Addr} {σ : L2.St} {l' : List D} (S : SOK cl H0 ρ F σ H) (hl : ρ[i]? = some (some (.lst l, true))) {a : Addr} {vs ws : List V} {f f' : List Addr} (hv : σ[i]? = some (some (.ref a))) (ha : H a = some (.lst vs)) (eF : F i = a :: f)
    (hf : ∀ b ∈ f', b ∈ f) (nf : f'.Nodup) (r : RepL cl H l' ws f') : ∃ F', SOK cl H0 (ρ.set i (some (.lst l', true))) F' σ (upd H a (.lst ws)) := by
  have nodF : (a :: f).Nodup := eF ▸ (S.own i _ hl).1
  have naf := (List.nodup_cons.mp nodF).1
  have naf' : a ∉ f' := fun z => naf (hf a z)
  have kp : Keep f' H (upd H a (.lst ws)) := ⟨fun b hb => upd_ne (fun z => naf' (z ▸ hb)), fun b us z => by
    rw [upd_ne (fun w => by rw [w, ha] at z; (injection z with z; injection z))]; exact z⟩
  exact S.mut (H' := upd H a (.lst ws)) (d' := .lst l') (fp := a :: f') (is := []) hl hv (by simp) (fun _ h => nomatch h) (by unfold Rep; exact ⟨a, _, _, rfl, rfl, r.keep kp, .inl upd_same⟩)
    (List.nodup_cons.mpr ⟨naf', nf⟩)
    (fun b hb => .inl (by
      rcases List.mem_cons.mp hb with z | z
      · rw [z, eF]; exact List.mem_cons_self
      · rw [eF]; exact List.mem_cons_of_mem _ (hf b z)))
    (fun b hb o u z => by
      rcases List.mem_cons.mp hb with w | w
      · rw [w, upd_same] at z; (injection z with z; injection z)
      · rw [upd_ne (fun (y : b = a) => naf' (by rw [← y]; exact w))] at z
        exact ((S.own i _ hl).2 b (by rw [eF]; exact List.mem_cons_of_mem _ (hf b w))).2 o u z)
    (fun b hb hd => upd_ne (fun z => hb (by rw [z, eF]; exact List.mem_cons_self)))
    (fun b us z => by rw [upd_ne (fun w => by rw [w, ha] at z; (injection z with z; injection z))]; exact z)
theorem RepL.reverse {H : Hp} : ∀ {l : List D} {vs : List V} {f : List Addr}, RepL cl H l vs f → immL l = true → RepL cl H l.reverse vs.reverse [] := by
  intro x_0
  induction x_0 with
  | nil =>
    intro _ _ h _
    obtain ⟨e, _⟩ := h
    subst e
    exact ⟨rfl, rfl⟩
  | cons x r ih_ =>
    intro vs f h hi
    obtain ⟨v, vr, f1, f2, e, ef, r1, r2⟩ := h
    subst e
    have hi' : x.imm = true ∧ immL r = true := by simpa [immL] using hi
    have e1 := r1.imm hi'.1
    subst e1
    rw [List.reverse_cons, List.reverse_cons]
    exact (ih_ r2 hi'.2).snoc r1
theorem s_clr (h : PS X st (tDrop (tBM0 X.K "list" rClear (tVar i)))) (hl : ρ[i]? = some (some (.lst l, true))) : PS X st (tSd cl ρ [] (.nx (ρ.set i (some (.lst [], true))))) :=
  ps_imp h fun D σ H ⟨H0, F, S, q⟩ => by
    obtain ⟨a, vs, f, hv, ha, eF, r⟩ := S.lst hl
    obtain ⟨F', S'⟩ := mut_list (l' := []) (ws := []) S hl hv ha eF (f' := []) (fun _ h => nomatch h) List.nodup_nil ⟨rfl, rfl⟩
    exact ⟨.ref a, hv, .inl ⟨rfl, vs, .inl (.inl ha)⟩, a, vs, rfl, rfl, ha, q σ _ F' S' fun _ _ => rfl⟩
end
section
variable {P : Program} {w : World} {K : PySem.W.Frag} {mg : Str → Option Value} {base : Heap} {cl : Nat → Addr}
theorem start_sok {H : Hp} {ds : List D} {vs : List V} {fp : List Addr} {N : List Str} {n : Nat} (r : RepL cl H ds vs fp) (hn : N.length = n) (hl : ds.length ≤ n) :
    ∃ F, SOK cl H (ds.map (fun d => some (d, false)) ++ List.replicate (n - ds.length) none) F (L2.start N vs) H := by
  have key : ∀ i : Nat, ∃ f : List Addr, ∀ d, ds[i]? = some d → ∃ v, vs[i]? = some v ∧ Rep cl H d v f := fun i => by
    cases e : ds[i]? with
    | none => exact ⟨[], fun d h => nomatch h⟩
    | some d =>
      obtain ⟨v, f, h1, h2, _⟩ := r.get e
      exact ⟨f, fun d' h => by (injection h with h; subst h); exact ⟨v, h1, h2⟩⟩
  refine ⟨fun i => Classical.choose (key i), ?_⟩
  have look : ∀ {j : Nat} {d : D} {o : Bool}, (ds.map (fun d => some (d, false)) ++ List.replicate (n - ds.length) none)[j]? = some (some (d, o)) → o = false ∧ ds[j]? = some d := fun {j d o} h => by
    by_cases hj : j < ds.length
    · rw [List.getElem?_append_left (by simpa using hj), List.getElem?_map] at h
      cases e : ds[j]? with
      | none => rw [e] at h; injection h
      | some x => rw [e] at h; cases h; exact ⟨rfl, rfl⟩
    · rw [List.getElem?_append_right (by simpa using hj), List.getElem?_replicate] at h
      split at h <;> (first | injection h; done | injection h with h; injection h; done)
  refine ⟨Same.refl _, ?_, fun j d o h => ?_, fun j d h => ?_, fun i j d e o _ h => ?_, fun j d h a ha => ?_⟩
  · unfold L2.start
    simp only [List.length_append, List.length_map, List.length_replicate]
    rw [r.len, hn]
  · obtain ⟨_, e⟩ := look h
    obtain ⟨v, h1, h2⟩ := Classical.choose_spec (key j) d e
    refine ⟨v, ?_, h2⟩
    unfold L2.start
    have hj : j < vs.length := (List.getElem?_eq_some_iff.mp h1).1
    rw [List.getElem?_append_left (by simpa using hj), List.getElem?_map, h1]
    rfl
  · cases (look h).1
  · cases (look h).1
  · obtain ⟨_, e⟩ := look h
    obtain ⟨v, h1, h2⟩ := Classical.choose_spec (key j) d e
    exact h2.dom a ha
set_option tactic.hygienic true in
theorem fn_ok {x qual : Str} {st : Stmt} {f : Addr} {fd : FuncData} {N ps : List Str} {kk : Nat} {M : Tab} {fn : Fn} (Fu : Fun K x qual st f fd) (Sc : FnScope N ps (defScope st)) (hps : ps.length = fn.par) (hN : N.length = fn.slots)
    (hb : ∀ (cdv : Value) (A : Around) (outer : List PySem.Env) (s : Shared) (H : Hp) (E : XK), Room kk (A.deeper (envOfC qual (defScope st) s.heap.objs.size f cdv)) →
      ∀ ρ, PSs (cxOf CX0 P w K mg base N qual (defScope st) f cdv A outer s H E).nox (defBody st) (tSd cl ρ (asgs fn.body) (runSs M fn.body ρ))) :
    FnOk P w K mg base CX0 (kk + 1) f fd ps (spP cl (fn.run M)) := by
  refine Fu.ok Sc (fun vs H Q E h => ?_) fun cdv A outer s H vs Q E hr h => ?_
  · obtain ⟨ds, fp, r, rl, e, _⟩ := h
    unfold Fn.run at e
    split at e
    · rename_i hc
      rw [rl.len, hc.1, hps]
    · injection e
  · obtain ⟨ds, fp, r, rl, e, cont⟩ := h
    unfold Fn.run at e
    split at e
    · rename_i hc
      obtain ⟨F, S⟩ := start_sok rl hN (by rw [hc.1]; exact hc.2)
      rw [hc.1] at S
      refine ⟨_, hb cdv A outer s H E hr (ds.map (fun d => some (d, false)) ++ List.replicate (fn.slots - fn.par) none), H, F, S, ?_⟩
      split at e
      · rename_i d hd
        injection e with e; subst e
        rw [hd]
        exact fun v H' fp' s' r' n' m' => cont v H' fp' s' r' n' m'
      · rename_i ρ' hd
        injection e with e; subst e
        rw [hd]
        exact fun σ' H' F' S' _ => cont .non H' [] S'.same ⟨rfl, rfl⟩ List.nodup_nil fun _ h => nomatch h
      · injection e
      · injection e
    · injection e
end
open PySem PySem.Spec PyProof.Rows L2 PySem.SeqAt
section
variable {cl : Nat → Addr} {H : Hp}
set_option tactic.hygienic true in
theorem same_ls {f : D → D → Option Bool} (hf : ∀ {a b : D} {k : Bool} {v : V} {fa fb : List Addr}, f a b = some k → Rep cl H a v fa → Rep cl H b v fb → k = true) :
    ∀ {a b : List D} {k : Bool} {vs : List V} {fa fb : List Addr}, eqLs f a b = some k → RepL cl H a vs fa → RepL cl H b vs fb → k = true := by
  intro x_0
  induction x_0 with
  | nil =>
    intro x_1
    cases x_1 with
    | nil =>
      intro k _ _ _ h _ _
      (injection h with h; subst h); rfl
    | cons y b =>
      intro k vs fa fb _ h1 h2
      have e1 := h1.len
      have e2 := h2.len
      rw [e1] at e2
      simp at e2
  | cons x a ih_ =>
    intro x_1
    cases x_1 with
    | nil =>
      intro k vs fa fb _ h1 h2
      have e1 := h1.len
      have e2 := h2.len
      rw [e1] at e2
      simp at e2
    | cons y b =>
      intro k vs fa fb h h1 h2
      obtain ⟨v, vr, f1, g1, e1, _, r1, l1⟩ := h1
      obtain ⟨v', vr', f2, g2, e2, _, r2, l2⟩ := h2
      rw [e1] at e2
      injection e2 with e2 e3
      subst e2; subst e3
      simp only [eqLs] at h
      split at h
      · rename_i p q hp hq
        (injection h with h; subst h)
        rw [hf hp r1 r2, ih_ hq l1 l2]
        rfl
      · injection h
theorem same_eq : ∀ {n : Nat} {a b : D} {k : Bool} {v : V} {fa fb : List Addr}, eqN n a b = some k → Rep cl H a v fa → Rep cl H b v fb → k = true := by
  intro n
  induction n with
  | zero => intro _ _ _ _ _ _ h; injection h
  | succ n ih =>
    intro a b k v fa fb h h1 h2
    cases a with
    | non =>
      cases b with
      | non => (injection h with h; subst h); rfl
      | bl _ =>
        have := h1.1.symm.trans h2.1
        injection this
      | int _ =>
        have := h1.1.symm.trans h2.1
        injection this
      | str _ =>
        have := h1.1.symm.trans h2.1
        injection this
      | tup m =>
        obtain ⟨p, vs, e1, _⟩ := h2
        have := h1.1.symm.trans e1
        injection this
      | _ => injection h
    | bl i =>
      cases b with
      | non =>
        have := h1.1.symm.trans h2.1
        injection this
      | bl j =>
        (injection h with h; subst h)
        have := h1.1.symm.trans h2.1
        injection this with this
        subst this
        simp
      | _ => injection h
    | int i =>
      cases b with
      | non =>
        have := h1.1.symm.trans h2.1
        injection this
      | str _ =>
        have := h1.1.symm.trans h2.1
        injection this
      | int j =>
        (injection h with h; subst h)
        have := h1.1.symm.trans h2.1
        injection this with this
        subst this
        simp
      | _ => injection h
    | str i =>
      cases b with
      | non =>
        have := h1.1.symm.trans h2.1
        injection this
      | int _ =>
        have := h1.1.symm.trans h2.1
        injection this
      | str j =>
        (injection h with h; subst h)
        have := h1.1.symm.trans h2.1
        injection this with this
        subst this
        simp
      | _ => injection h
    | tup l =>
      cases b with
      | non =>
        obtain ⟨p, vs, e1, _⟩ := h1
        have := e1.symm.trans h2.1
        injection this
      | tup m =>
        have h : eqLs (eqN n) l m = some k := h
        obtain ⟨p, vs, e1, hp, r1⟩ := h1
        obtain ⟨q, ws, e2, hq, r2⟩ := h2
        rw [e1] at e2
        injection e2 with e2
        subst e2
        rw [hp] at hq
        (injection hq with hq; injection hq with hq; subst hq)
        exact same_ls (fun h => ih h) h r1 r2
      | _ => injection h
    | lst l =>
      cases b with
      | lst m =>
        have h : eqLs (eqN n) l m = some k := h
        obtain ⟨p, vs, f1, e1, _, r1, hp⟩ := h1
        obtain ⟨q, ws, f2, e2, _, r2, hq⟩ := h2
        rw [e1] at e2
        injection e2 with e2
        subst e2
        have ev : vs = ws := by
          rcases hp with hp | ⟨o, hp⟩ <;> rcases hq with hq | ⟨o', hq⟩ <;> rw [hp] at hq <;> cases hq <;> rfl
        subst ev
        exact same_ls (fun h => ih h) h r1 r2
      | _ => injection h
    | _ => injection h
end
section
variable {X : Cx} {cl : Nat → Addr} {H : Hp} {pins : List (Addr × Obj)} {σ : L2.St} {s : Shared}
set_option tactic.hygienic true in
theorem ls_range {f : D → D → Option Bool} : ∀ {a b : List D} {k : Bool}, eqLs f a b = some k →
    ∃ e : Nat → Bool, (∀ j (x y : D), a[j]? = some x → b[j]? = some y → f x y = some (e j)) ∧ k = ((List.range (min a.length b.length)).all e && a.length == b.length) := by
  intro x_0
  induction x_0 with
  | nil =>
    intro x_1
    cases x_1 with
    | nil =>
      intro k h
      (injection h with h; subst h); exact ⟨fun _ => true, fun j x y h => by simp at h, by simp⟩
    | cons y b =>
      intro k h
      (injection h with h; subst h); exact ⟨fun _ => true, fun j x y h => by simp at h, by simp⟩
  | cons x a ih_ =>
    intro x_1
    cases x_1 with
    | nil =>
      intro k h
      (injection h with h; subst h); exact ⟨fun _ => true, fun j x y _ h => by simp at h, by simp⟩
    | cons y b =>
      intro k h
      simp only [eqLs] at h
      split at h
      · rename_i p q hp hq
        (injection h with h; subst h)
        obtain ⟨e, h1, h2⟩ := ih_ hq
        refine ⟨fun j => match j with | 0 => p | j + 1 => e j, fun j u v hu hv => ?_, ?_⟩
        · cases j with
          | zero => (injection hu with hu; subst hu); (injection hv with hv; subst hv); exact hp
          | succ j => exact h1 j u v (by simpa using hu) (by simpa using hv)
        · rw [h2]
          have em : min (x :: a).length (y :: b).length = min a.length b.length + 1 := by simp [Nat.succ_min_succ]
          rw [em, List.range_succ_eq_map, List.all_cons, List.all_map]
          have el : ((x :: a).length == (y :: b).length) = (a.length == b.length) := by simp
          rw [el, Bool.and_assoc]
          rfl
      · injection h
theorem vals_at {K : PySem.W.Frag} {l : List D} {vs : List V} {its : List Value} {f : List Addr} (r : RepL cl H l vs f) (rv : Vals vs its) {j : Nat} (h : j < its.toArray.size) : ∃ d v g, l[j]? = some d ∧ Rep cl H d v g ∧ RelV v its.toArray[j] := by
  have hj : j < l.length := by rw [← r.len, rv.length]; simpa using h
  obtain ⟨v, g, e1, e2, _⟩ := r.get (List.getElem?_eq_getElem hj)
  obtain ⟨u, hu, ru⟩ := rv.get e1
  refine ⟨l[j], v, g, List.getElem?_eq_getElem hj, e2, ?_⟩
  have hj' : j < its.length := by simpa using h
  rw [List.getElem?_eq_getElem hj'] at hu
  (injection hu with hu; subst hu)
  simpa using ru
theorem lst_val (I : Inv X pins σ H s) {l : List D} {x : V} {u : Value} {f : List Addr} (r : Rep cl H (.lst l) x f) (ru : RelV x u) : ∃ a vs its g, u = .ref a ∧ x = .ref a ∧ s.heap.IsList a its.toArray ∧ Vals vs its ∧ RepL cl H l vs g := by
  obtain ⟨p, vs, g, e, h1, h2⟩ := lst_read (K := X.K) r
  subst e
  subst ru
  obtain ⟨its, rv, pl, _⟩ := I.list h1
  exact ⟨p, vs, its, g, rfl, rfl, pl.isList, rv, h2⟩
theorem tup_val (I : Inv X pins σ H s) {l : List D} {x : V} {u : Value} {f : List Addr} (r : Rep cl H (.tup l) x f) (ru : RelV x u) : ∃ a vs its, u = .ref a ∧ x = .ref a ∧ s.heap.IsTuple a its.toArray ∧ Vals vs its ∧ RepL cl H l vs f := by
  obtain ⟨p, vs, e, h1, h2⟩ := tup_read (K := X.K) r
  subst e
  subst ru
  obtain ⟨its, rv, pl, _⟩ := I.tuple h1
  exact ⟨p, vs, its, rfl, rfl, pl, rv, h2⟩
theorem eq_ok (I : Inv X pins σ H s) : ∀ {n : Nat} {a b : D} {k : Bool} {x y : V} {u v : Value} {fa fb : List Addr} {A : Around}, eqN n a b = some k → Rep cl H a x fa → Rep cl H b y fb → RelV x u → RelV y v → A.units + n < cLine →
    RcAt A s u v k ∧ EqAt A s u v k ∧ RcNeAt A s u v (!k) := by
  intro x_0
  induction x_0 with
  | zero =>
    intro _ _ _ _ _ _ _ _ _ _ h _ _ _ _ _
    injection h
  | succ n ih_ =>
    intro a b k x y u v fa fb A h h1 h2 ru rv hA
    have hu : A.units < cLine := by exact Nat.lt_of_le_of_lt (Nat.le_add_right _ _) ‹_›
    have hin : A.in1.units + n < cLine := by show A.units + 1 + n < cLine; (clear I h h1 h2 ru rv hu; omega)
    have h0 := h
    cases a with
    | non =>
      rw [h1.1] at ru
      subst ru
      cases b with
      | non =>
        (injection h with h; subst h)
        rw [h2.1] at rv
        subst rv
        exact ⟨.none_none, .same _, .none_none⟩
      | int i =>
        (injection h with h; subst h)
        rw [h2.1] at rv
        obtain ⟨t', rfl⟩ := rv
        exact ⟨.none_int _ _, .none_int _ _, .none_int _ _⟩
      | str i =>
        (injection h with h; subst h)
        rw [h2.1] at rv
        obtain ⟨t', rfl⟩ := rv
        exact ⟨.none_str _ _, .none_str _ _, .none_str _ _⟩
      | bl i =>
        (injection h with h; subst h)
        rw [h2.1] at rv
        subst rv
        exact ⟨.none_bool _, .none_bool _, .none_bool _⟩
      | tup m =>
        (injection h with h; subst h)
        obtain ⟨q, ws, its2, ev, ey, il2, vv2, r2⟩ := tup_val I h2 rv
        subst ev
        exact ⟨.none_tuple il2 hu, .none_tuple il2 hu, .none_tuple il2 hu⟩
      | _ => injection h
    | bl i =>
      rw [h1.1] at ru
      subst ru
      cases b with
      | non =>
        (injection h with h; subst h)
        rw [h2.1] at rv
        subst rv
        exact ⟨.bool_none _, .bool_none _, .bool_none _⟩
      | bl j =>
        (injection h with h; subst h)
        rw [h2.1] at rv
        subst rv
        exact ⟨.bool_bool _ _, .bool_bool _ _, .bool_bool _ _⟩
      | _ => injection h
    | int i =>
      rw [h1.1] at ru
      obtain ⟨t, rfl⟩ := ru
      cases b with
      | non =>
        (injection h with h; subst h)
        rw [h2.1] at rv
        subst rv
        exact ⟨.int_none _ _, .int_none _ _, .int_none _ _⟩
      | int j =>
        (injection h with h; subst h)
        rw [h2.1] at rv
        obtain ⟨t', rfl⟩ := rv
        exact ⟨.int_int _ _ _ _, .int_int _ _ _ _, .int_int _ _ _ _⟩
      | str j =>
        (injection h with h; subst h)
        rw [h2.1] at rv
        obtain ⟨t', rfl⟩ := rv
        exact ⟨.int_str _ _ _ _, .int_str _ _ _ _, .int_str _ _ _ _⟩
      | _ => injection h
    | str i =>
      rw [h1.1] at ru
      obtain ⟨t, rfl⟩ := ru
      cases b with
      | non =>
        (injection h with h; subst h)
        rw [h2.1] at rv
        subst rv
        exact ⟨.str_none _ _, .str_none _ _, .str_none _ _⟩
      | int j =>
        (injection h with h; subst h)
        rw [h2.1] at rv
        obtain ⟨t', rfl⟩ := rv
        exact ⟨.str_int _ _ _ _, .str_int _ _ _ _, .str_int _ _ _ _⟩
      | str j =>
        (injection h with h; subst h)
        rw [h2.1] at rv
        obtain ⟨t', rfl⟩ := rv
        exact ⟨.str_str _ _ _ _, .str_str _ _ _ _, .str_str _ _ _ _⟩
      | _ => injection h
    | tup l =>
      cases b with
      | non =>
        (injection h with h; subst h)
        rw [h2.1] at rv
        subst rv
        obtain ⟨q, ws, its2, ev, ey, il2, vv2, r2⟩ := tup_val I h1 ru
        subst ev
        exact ⟨.tuple_none il2 hu, .tuple_none il2 hu, .tuple_none il2 hu⟩
      | tup m =>
        have h : eqLs (eqN n) l m = some k := h
        obtain ⟨p, vs, its, eu, ex, il, vv, r1⟩ := tup_val I h1 ru
        obtain ⟨q, ws, its2, ev, ey, il2, vv2, r2⟩ := tup_val I h2 rv
        obtain ⟨e, he, ek⟩ := ls_range h
        have items : ∀ j (z1 : j < its.toArray.size) (z2 : j < its2.toArray.size), EqAt A.in1 s its.toArray[j] its2.toArray[j] (e j) := fun j z1 z2 => by
          obtain ⟨d1, w1, g1, a1, a2, a3⟩ := vals_at (K := X.K) r1 vv z1
          obtain ⟨d2, w2, g2, b1, b2, b3⟩ := vals_at (K := X.K) r2 vv2 z2
          exact (ih_ (he j d1 d2 a1 b1) a2 b2 a3 b3 hin).2.1
        have sz : its.toArray.size = l.length := by rw [← r1.len, vv.length]; simp
        have sz2 : its2.toArray.size = m.length := by rw [← r2.len, vv2.length]; simp
        have rc := RcAt.tuples il il2 hu items
        have rn := RcNeAt.tuples il il2 hu items
        rw [sz, sz2, ← ek] at rc rn
        subst eu; subst ev
        refine ⟨rc, ?_, rn⟩
        by_cases hpq : p = q
        · subst hpq
          have := same_eq h0 h1 (ex.trans ey.symm ▸ h2)
          subst this
          exact .same _
        · exact .of_refs hpq rc
      | _ => injection h
    | lst l =>
      cases b with
      | lst m =>
        have h : eqLs (eqN n) l m = some k := h
        obtain ⟨p, vs, its, g1, eu, ex, il, vv, r1⟩ := lst_val I h1 ru
        obtain ⟨q, ws, its2, g2, ev, ey, il2, vv2, r2⟩ := lst_val I h2 rv
        obtain ⟨e, he, ek⟩ := ls_range h
        have sz : its.toArray.size = l.length := by rw [← r1.len, vv.length]; simp
        have sz2 : its2.toArray.size = m.length := by rw [← r2.len, vv2.length]; simp
        subst eu; subst ev
        have both : RcAt A s (.ref p) (.ref q) k ∧ RcNeAt A s (.ref p) (.ref q) (!k) := by
          by_cases hl : l.length = m.length
          · have items : ∀ j (z1 : j < its.toArray.size) (z2 : j < its2.toArray.size), EqAt A.in1 s its.toArray[j] its2.toArray[j] (e j) := fun j z1 z2 => by
              obtain ⟨d1, w1, g1, a1, a2, a3⟩ := vals_at (K := X.K) r1 vv z1
              obtain ⟨d2, w2, g2, b1, b2, b3⟩ := vals_at (K := X.K) r2 vv2 z2
              exact (ih_ (he j d1 d2 a1 b1) a2 b2 a3 b3 hin).2.1
            have hsz : its.toArray.size = its2.toArray.size := by rw [sz, sz2, hl]
            have rc := RcAt.lists il il2 hsz hu items
            have rn := RcNeAt.lists il il2 hsz hu items
            have ek' : k = (List.range its.toArray.size).all e := by rw [ek, hl, Nat.min_self, sz, hl]; simp
            rw [← ek'] at rc rn
            exact ⟨rc, rn⟩
          · have hsz : (its.toArray.size != its2.toArray.size) = true := by rw [sz, sz2]; simpa using hl
            have ek' : k = false := by
              rw [ek]
              have : (l.length == m.length) = false := by simpa using hl
              rw [this, Bool.and_false]
            subst ek'
            exact ⟨RcAt.lists_lengths il il2 hsz hu, RcNeAt.lists_lengths il il2 hsz hu⟩
        refine ⟨both.1, ?_, both.2⟩
        by_cases hpq : p = q
        · subst hpq
          have := same_eq h0 h1 (ex.trans ey.symm ▸ h2)
          subst this
          exact .same _
        · exact .of_refs hpq both.1
      | _ => injection h
    | dK l => injection h
    | dT l => injection h
    | obj c fs => injection h
def rEqD (cl : Nat → Addr) (neg : Bool) : R2 := fun x y H Q => ∃ a b k fa fb, Rep cl H a x fa ∧ Rep cl H b y fb ∧ eqD a b = some k ∧ Q (.bl (if neg then !k else k)) H
theorem op_eqD (hu : X.A.units + 8 < cLine) : OpR X (compareOp .Eq) (rEqD cl false) := by
  intro pins s σ H x y v u Q I rx ry hh_
  obtain ⟨a, b, k, fa, fb, h1, h2, e, q⟩ := hh_
  exact (eq_ok I e h1 h2 rx ry hu).1 X.prog X.w X.xe _ ⟨.bl k, H, I, rfl, q⟩
theorem op_neD (hu : X.A.units + 8 < cLine) : OpR X (compareOp .NotEq) (rEqD cl true) := by
  intro pins s σ H x y v u Q I rx ry hh_
  obtain ⟨a, b, k, fa, fb, h1, h2, e, q⟩ := hh_
  exact (eq_ok I e h1 h2 rx ry hu).2.2 X.prog X.w X.xe _ ⟨.bl (!k), H, I, rfl, q⟩
end
end Vi
namespace Vi
open PySem PySem.Spec PyProof.Rows L2
section
variable (X : Cx) (cl : Nat → Addr) (M : Tab)
def GE (e : Expr) (E' : E) : Prop := ∀ ρ d k, runE M E' ρ = .ok (d, k) → PE X e (tD cl ρ d k)
def GA (es : List Expr) (Es : List E) : Prop := ∀ ρ ds k, runEs M Es ρ = .ok (ds, k) → PA X es (tDs cl ρ ds k)
def GT (e : Expr) (E' : E) : Prop := ∀ ρ d k t, runE M E' ρ = .ok (d, k) → truD d = .ok t → PT X e (tTd cl ρ t)
def GI (tg iter : Expr) (ik : Itk) (it : List E) : Prop := ∀ ρ xs k, runI M ik it ρ = .ok (xs, k) → PI X tg iter (tI cl ρ xs k)
def GS (st : Stmt) (s : S) : Prop := ∀ ρ, PS X st (tSd cl ρ (asg s) (runS M s ρ))
def GSs (sts : List Stmt) (ss : List S) : Prop := ∀ ρ, PSs X sts (tSd cl ρ (asgs ss) (runSs M ss ρ))
end
section
variable {X : Cx} {cl : Nat → Addr} {M : Tab} {a b c e o : Expr} {es rest : List Expr} {pos p p2 : Pos} {a' b' c' e' o' : E} {es' : List E}
theorem g_var {i : Nat} {x : Str} (hN : X.N[i]? = some x) (hv : Vis X.env.scope x) (hd : (x == ("__debug__" : Str)) = false) (hcd : (x == ("__classdict__" : Str)) = false) : GE X cl M (.Name x pos) (.var i) := fun ρ d k h => e_var hN hv hd hcd h
theorem g_int {i : Int} {j} : GE X cl M (.Constant (.int i) j pos) (.int i) := fun ρ d k h => by
  cases h; exact e_int
theorem g_bl {i : Bool} {j} : GE X cl M (.Constant (.bool i) j pos) (.bl i) := fun ρ d k h => by
  cases h; exact e_bl
theorem g_str {x : Str} {j} : GE X cl M (.Constant (.str x) j pos) (.str x) := fun ρ d k h => by
  cases h; exact e_str
theorem g_bin {op : Op} (ha : GE X cl M a a') (hb : GE X cl M b b') : GE X cl M (.BinOp a (opOf op) b pos) (.bin op a' b') := fun ρ d k h => by
  rw [rE_bin] at h
  obtain ⟨⟨x, kx⟩, h1, h⟩ := R.bind_ok h
  obtain ⟨⟨y, ky⟩, h2, h⟩ := R.bind_ok h
  obtain ⟨z, h3, h⟩ := R.bind_ok h
  obtain ⟨rfl, rfl⟩ := okp h
  exact e_bin h3 (ha ρ x kx h1) (hb ρ y ky h2)
theorem g_not (ha : GE X cl M a a') : GE X cl M (.UnaryOp .Not a pos) (.not a') := fun ρ d k h => by
  rw [rE_not] at h
  obtain ⟨⟨x, kx⟩, h1, h⟩ := R.bind_ok h
  cases x with
  | bl i =>
    obtain ⟨rfl, rfl⟩ := okp h
    exact pe_imp (pe_not (ha ρ _ kx h1)) fun σ H Q ⟨H0, F, S, q⟩ => ⟨H0, F, S, fun v H1 fp s1 r1 _ => ⟨i, r1.1, q _ H1 [] s1 ⟨rfl, rfl⟩ KOk.nil0⟩⟩
  | _ => injection h
theorem g_one {op} (ha : GE X cl M a a') : GE X cl M (.BoolOp op [a] pos) a' := fun ρ d k h => pe_one (ha ρ d k h)
theorem g_and (ha : GE X cl M a a') (hb : GE X cl M (.BoolOp .And (b :: rest) pos) b') : GE X cl M (.BoolOp .And (a :: b :: rest) pos) (.and a' b') := fun ρ d k h => by
  rw [rE_and] at h
  obtain ⟨⟨x, kx⟩, h1, h⟩ := R.bind_ok h
  cases x with
  | bl i =>
    cases i with
    | true =>
      intro pins s σ H Q I hh_
      obtain ⟨H0, F, S, q⟩ := hh_
      exact pe_and (ha ρ _ kx h1) (hb ρ d k h) pins s σ H Q I ⟨H0, F, S, fun v H1 fp s1 r1 _ => ⟨true, r1.1, iteT ⟨H0, F, S.step s1, fun v2 H2 fp2 s2 r2 k2 => q v2 H2 fp2 (s1.trans s2) r2 (KOk.of_sub s1 k2)⟩⟩⟩
    | false =>
      obtain ⟨rfl, rfl⟩ := okp h
      intro pins s σ H Q I hh_
      obtain ⟨H0, F, S, q⟩ := hh_
      refine BoolOp_and (thn (ha ρ _ kx h1 pins s σ H (fun v H1 => v = .bl false ∧ Q (.bl false) H1) I ⟨H0, F, S, fun v H1 fp s1 r1 _ => ⟨r1.1, q _ H1 [] s1 ⟨rfl, rfl⟩ KOk.nil0⟩⟩) fun v s1 ⟨x, H1, I1, r1, e, q1⟩ => ?_)
      subst e
      subst r1
      exact wpAny_truthy_bool ⟨.bl false, H1, I1, rfl, q1⟩
  | _ => injection h
def GW (X : Cx) (cl : Nat → Addr) (M : Tab) (e : Expr) (E' : E) : Prop := ∀ ρ d k t, runE M E' ρ = .ok (d, k) → truD d = .ok t → PW X e (tTd cl ρ t)
theorem gt_plain (h : GE X cl M a a') (he : ∀ whole, isTrue a X.env whole = (do let v ← whole; standAt a.pos; holding [v] (truthy v))) : GT X cl M a a' := fun ρ d k t h1 h2 => t_truth (h ρ d k h1) h2 he
theorem gt_not (h : GT X cl M a a') : GT X cl M (.UnaryOp .Not a pos) (.not a') := fun ρ d k t h1 h2 => by
  rw [rE_not] at h1
  obtain ⟨⟨x, kx⟩, h3, h1⟩ := R.bind_ok h1
  cases x with
  | bl i =>
    obtain ⟨rfl, rfl⟩ := okp h1
    (injection h2 with h2; subst h2)
    exact t_not (h ρ _ kx i h3 rfl)
  | _ => injection h1
theorem gw_pt (h : GW X cl M a a') : GT X cl M a a' := fun ρ d k t h1 h2 => (h ρ d k t h1 h2).pt
theorem gw_or1 (h : GT X cl M a a') : GW X cl M (.BoolOp .Or [a] pos) a' := fun ρ d k t h1 h2 => w_one_or (h ρ d k t h1 h2)
theorem gw_or (h : GT X cl M a a') (hb : GW X cl M (.BoolOp .Or (b :: rest) pos) b') : GW X cl M (.BoolOp .Or (a :: b :: rest) pos) (.or a' b') := fun ρ d k t h1 h2 => by
  rw [rE_or] at h1
  obtain ⟨⟨x, kx⟩, h3, h1⟩ := R.bind_ok h1
  cases x with
  | bl i =>
    cases i with
    | false => exact w_or (t := false) (u := t) (h ρ _ kx false h3 rfl) fun _ => hb ρ d k t h1 h2
    | true =>
      obtain ⟨rfl, rfl⟩ := okp h1
      (injection h2 with h2; subst h2)
      exact w_or (t := true) (u := true) (h ρ _ kx true h3 rfl) fun z => (nomatch z)
  | _ => injection h1
def cpOf : Cp → CmpOp
  | .eq => .Eq | .ne => .NotEq | .lt => .Lt | .le => .LtE | .gt => .Gt | .ge => .GtE | .isN => .Is | .notN => .IsNot | .mem => .In | .nmem => .NotIn
def CmpOk (X : Cx) (cl : Nat → Addr) (op : CmpOp) (d1 d2 : D) (t : Bool) : Prop := ∀ (pins : List (Addr × Obj)) (s : Shared) (σ : L2.St) (H : Hp) (x y : V) (v u : Value) (Q : VK) (f g : List Addr), Inv X pins σ H s → RelV x v → RelV y u → Rep cl H d1 x f → Rep cl H d2 y g → Q (.bl t) H →
  wpAny (model X.prog X.w) X.A (compareOp op v u) (EP X pins σ Q) X.xe s
theorem CmpOk.of {op : CmpOp} {r : R2} {d1 d2 : D} {t : Bool} (ho : OpR X (compareOp op) r) (hr : ∀ x y H (Q : VK) f g, Rep cl H d1 x f → Rep cl H d2 y g → Q (.bl t) H → r x y H Q) : CmpOk X cl op d1 d2 t :=
  fun pins s σ H x y v u Q f g I rx ry r1 r2 q => ho pins s σ H x y v u Q I rx ry (hr x y H Q f g r1 r2 q)
def rCmp (cl : Nat → Addr) (d1 d2 : D) (t : Bool) : R2 := fun x y H Q => ∃ f g, Rep cl H d1 x f ∧ Rep cl H d2 y g ∧ Q (.bl t) H
theorem CmpOk.opR {op : CmpOp} {d1 d2 : D} {t : Bool} (h : CmpOk X cl op d1 d2 t) : OpR X (compareOp op) (rCmp cl d1 d2 t) := fun pins s σ H x y v u Q I rx ry hh_ => (by obtain ⟨f, g, r1, r2, q⟩ := hh_; exact (h pins s σ H x y v u Q f g I rx ry r1 r2 q))
theorem flat_atom {d : D} {x : V} {H : Hp} {f : List Addr} {y : D} {k : Bool} (h : atomEq d y = some k) (r : Rep cl H d x f) : flatV x = true ∧ f = [] := by
  cases d with
  | int i => rw [r.1]; exact ⟨rfl, r.2⟩
  | str i => rw [r.1]; exact ⟨rfl, r.2⟩
  | _ => injection h
theorem flat_atom2 {d : D} {x : V} {H : Hp} {f : List Addr} {y : D} {k : Bool} (h : atomEq y d = some k) (r : Rep cl H d x f) : flatV x = true := by
  cases y with
  | int j =>
    cases d with
    | int i => rw [r.1]; rfl
    | _ => injection h
  | str j =>
    cases d with
    | str i => rw [r.1]; rfl
    | _ => injection h
  | _ => injection h
theorem eqV_atom {d y : D} {u v : V} {H : Hp} {f g : List Addr} {k : Bool} (h : atomEq d y = some k) (r : Rep cl H d u f) (r' : Rep cl H y v g) : eqV u v = k := by
  cases d with
  | int i =>
    cases y with
    | int j => rw [r.1, r'.1]; cases h; rfl
    | _ => injection h
  | str i =>
    cases y with
    | str j =>
      rw [r.1, r'.1]
      cases h
      show (decide (i = j)) = _
      by_cases e : i = j
      · simp [e]
      · simp [e]
    | _ => injection h
  | _ => injection h
set_option tactic.hygienic true in
theorem mem_rep {d : D} {x : V} {H : Hp} {f : List Addr} (rx : Rep cl H d x f) : ∀ {l : List D} {vs : List V} {g : List Addr} {k : Bool}, memL d l = some k → RepL cl H l vs g → vs.all flatV = true ∧ inV x vs = k ∧ (l ≠ [] → flatV x = true) := by
  intro x_0
  induction x_0 with
  | nil =>
    intro vs g k h r
    obtain ⟨e, _⟩ := r
    subst e
    (injection h with h; subst h)
    exact ⟨rfl, rfl, fun z => absurd rfl z⟩
  | cons y l ih_ =>
    intro vs g k h r
    obtain ⟨v, vr, f1, g1, e, _, r1, r2⟩ := r
    subst e
    simp only [memL] at h
    split at h
    · rename_i p q hp hq
      (injection h with h; subst h)
      obtain ⟨h1, h2, _⟩ := ih_ hq r2
      refine ⟨by rw [List.all_cons, (flat_atom hp r1).1, h1]; rfl, ?_, fun _ => flat_atom2 hp rx⟩
      show (List.any (v :: vr) fun y => eqV y x) = _
      rw [List.any_cons, eqV_atom hp r1 rx]
      show (p || inV x vr) = _
      rw [h2]
    · injection h
end
section
variable {X : Cx} {cl : Nat → Addr} {H : Hp}
theorem val_rep {κ : Type} [DecidableEq κ] {k : κ} : ∀ {l : List (κ × D)} {kvs : List (κ × V)} {f : List Addr}, l.map (·.1) = kvs.map (·.1) → RepL cl H (l.map (·.2)) (kvs.map (·.2)) f →
    (valD l k = none ∧ valV kvs k = none) ∨ ∃ dv w fw, valD l k = some dv ∧ valV kvs k = some w ∧ Rep cl H dv w fw ∧ ∀ b ∈ fw, b ∈ f := by
  intro x_0
  induction x_0 with
  | nil =>
    intro x_1
    cases x_1 with
    | nil =>
      intro _ _ _
      exact .inl ⟨rfl, rfl⟩
    | cons _ _ =>
      intro _ e _
      simp at e
  | cons p_0 l ih_ =>
    obtain ⟨k1, d⟩ := p_0
    intro x_1
    cases x_1 with
    | nil =>
      intro _ e _
      simp at e
    | cons p_1 kvs =>
      obtain ⟨k2, v⟩ := p_1
      intro f e r
      rw [List.map_cons, List.map_cons] at e r
      injection e with e1 e2
      obtain ⟨v', vr, f1, g1, ev, ef, r1, r2⟩ := r
      injection ev with ev1 ev2
      subst ev1; subst ev2; subst ef
      have e1 : k1 = k2 := e1
      subst e1
      by_cases h : k1 = k
      · refine .inr ⟨d, v, f1, ?_, valV_pos h, r1, fun b hb => List.mem_append_left _ hb⟩
        simp [valD, List.find?_cons, h]
      · have h1 : valD ((k1, d) :: l) k = valD l k := by simp [valD, List.find?_cons, h]
        rw [h1, valV_neg (p := (k1, v)) h]
        rcases ih_ e2 r2 with z | ⟨dv, w, fw, z1, z2, z3, z4⟩
        · exact .inl z
        · exact .inr ⟨dv, w, fw, z1, z2, z3, fun b hb => List.mem_append_right _ (z4 b hb)⟩
theorem key_rep {d : D} {v : V} {g : List Addr} {k : Key} (h : keyOf d = some k) (r : Rep cl H d v g) : v = kV k := by
  cases d with
  | int i => (injection h with h; subst h); exact r.1
  | str i => (injection h with h; subst h); exact r.1
  | _ => injection h
set_option tactic.hygienic true in
theorem keys_rep : ∀ {l : List D} {vs : List V} {g : List Addr} {ks : List Key}, keysOf l = some ks → RepL cl H l vs g → vs = ks.map kV := by
  intro x_0
  induction x_0 with
  | nil =>
    intro _ _ _ h r
    (injection h with h; subst h); exact r.1
  | cons d l ih_ =>
    intro vs g ks h r
    obtain ⟨v, vr, f1, g1, ev, ef, r1, r2⟩ := r
    simp only [keysOf] at h
    split at h
    · rename_i k ks' h1 h2
      (injection h with h; subst h)
      rw [ev, key_rep h1 r1, ih_ h2 r2]
      rfl
    · injection h
set_option tactic.hygienic true in
theorem dget_rep {d y : D} {x v : V} {f g : List Addr} {o : Option D} (rd : Rep cl H d x f) (ry : Rep cl H y v g) (h : dgetD d y = some o) :
    ∃ a o', x = .ref a ∧ IsD H a ∧ DGet H a v o' ∧ ((o = none ∧ o' = none) ∨ ∃ dv w fw, o = some dv ∧ o' = some w ∧ Rep cl H dv w fw ∧ ∀ b ∈ fw, b ∈ f) := by
  cases d with
  | dK l =>
    simp only [dgetD] at h
    split at h
    · rename_i k hk
      (injection h with h; subst h)
      obtain ⟨a, f', kvs, e, ef, ha, hks, r⟩ := rd
      refine ⟨a, valV kvs k, e, .inl ⟨kvs, ha⟩, by rw [key_rep hk ry]; exact .inl ⟨kvs, k, ha, rfl, rfl⟩, ?_⟩
      rcases val_rep (k := k) hks (RepM.l.mp r) with z | ⟨dv, w, fw, z1, z2, z3, z4⟩
      · exact .inl z
      · exact .inr ⟨dv, w, fw, z1, z2, z3, fun b hb => by rw [ef]; exact List.mem_cons_of_mem _ (z4 b hb)⟩
    · injection h
  | dT l =>
    cases y with
    | tup ks =>
      simp only [dgetD] at h
      split at h
      · rename_i k hk
        (injection h with h; subst h)
        obtain ⟨a, f', kvs, e, ef, ha, hks, r⟩ := rd
        obtain ⟨b, vs, eb, hb, rl⟩ := ry
        have ev := keys_rep hk rl
        subst ev
        refine ⟨a, valV kvs k, e, .inr ⟨kvs, .inl ha⟩, by rw [eb]; exact DGet.t ha hb, ?_⟩
        rcases val_rep (k := k) hks (RepT.l.mp r) with z | ⟨dv, w, fw, z1, z2, z3, z4⟩
        · exact .inl z
        · exact .inr ⟨dv, w, fw, z1, z2, z3, fun b hb => by rw [ef]; exact List.mem_cons_of_mem _ (z4 b hb)⟩
      · injection h
    | _ => injection h
  | _ => injection h
end
section
variable {X : Cx} {cl : Nat → Addr} {H : Hp}
set_option tactic.hygienic true in
theorem eqLs_keys {n : Nat} : ∀ {l m : List D} {ks js : List Key}, keysOf l = some ks → keysOf m = some js → eqLs (eqN (n + 1)) l m = some (decide (ks = js)) := by
  intro x_0
  induction x_0 with
  | nil =>
    intro x_1
    cases x_1 with
    | nil =>
      intro ks js h1 h2
      (injection h1 with h1; subst h1); (injection h2 with h2; subst h2); rfl
    | cons d m =>
      intro ks js h1 h2
      (injection h1 with h1; subst h1)
      simp only [keysOf] at h2
      split at h2
      · (injection h2 with h2; subst h2); rfl
      · injection h2
  | cons d l ih_ =>
    intro x_1
    cases x_1 with
    | nil =>
      intro ks js h1 h2
      (injection h2 with h2; subst h2)
      simp only [keysOf] at h1
      split at h1
      · (injection h1 with h1; subst h1); rfl
      · injection h1
    | cons e m =>
      intro ks js h1 h2
      simp only [keysOf] at h1 h2
      split at h1
      · rename_i k1 k2 a1 a2
        split at h2
        · rename_i j1 j2 b1 b2
          injection h1 with h1
          injection h2 with h2
          subst h1; subst h2
          have rest := ih_ a2 b2
          have one : eqN (n + 1) d e = some (decide (k1 = j1)) := by
            cases d with
            | int i =>
              (injection a1 with a1; subst a1)
              cases e with
              | int j => (injection b1 with b1; subst b1); rw [eqN_3]; congr 1; by_cases h : i = j <;> simp [h]
              | str j => (injection b1 with b1; subst b1); rw [eqN_15]; congr 1
              | _ => injection b1
            | str i =>
              (injection a1 with a1; subst a1)
              cases e with
              | int j => (injection b1 with b1; subst b1); rw [eqN_16]; congr 1
              | str j => (injection b1 with b1; subst b1); rw [eqN_4]; congr 1; by_cases h : i = j <;> simp [h]
              | _ => injection b1
            | _ => injection a1
          simp only [eqLs, one, rest]
          congr 1
          by_cases h : k1 = j1 <;> by_cases h' : k2 = j2 <;> simp [h, h']
        · injection h2
      · injection h1
theorem tup_keys {d : D} {x : V} {f : List Addr} {l : List D} {ks : List Key} (e : d = .tup l) (r : Rep cl H d x f) (h : keysOf l = some ks) : ∃ a, x = .ref a ∧ H a = some (.tup (ks.map kV)) := by
  subst e
  obtain ⟨a, vs, e, ha, r⟩ := r
  exact ⟨a, e, by rw [ha, keys_rep h r]⟩
theorem kV_inj : ∀ {a b : Key}, kV a = kV b → a = b
  | .inl a, .inl b, h => by (injection h with h; subst h); rfl
  | .inr a, .inr b, h => by (injection h with h; subst h); rfl
  | .inl _, .inr _, h => nomatch h
  | .inr _, .inl _, h => nomatch h
theorem mapKV_inj : ∀ {a b : List Key}, a.map kV = b.map kV → a = b := by
  intro x_0
  induction x_0 with
  | nil =>
    intro x_1
    cases x_1 with
    | nil =>
      intro _
      exact rfl
    | cons _ _ =>
      intro h
      exact nomatch h
  | cons x a ih_ =>
    intro x_1
    cases x_1 with
    | nil =>
      intro h
      exact nomatch h
    | cons y b =>
      intro h
      injection h with h1 h2
      rw [kV_inj h1, ih_ h2]
open Classical in
def isT (H : Hp) (k : List Key) (u : Value) : Bool := decide (∃ a, u = .ref a ∧ H a = some (.tup (k.map kV)))
theorem isT_of {k j : List Key} {a : Addr} (h : H a = some (.tup (j.map kV))) : isT H k (.ref a) = decide (j = k) := by
  unfold isT
  apply decide_eq_decide.mpr
  constructor
  · rintro ⟨b, e, z⟩
    (injection e with e; subst e)
    rw [h] at z
    injection z with z
    injection z with z
    exact mapKV_inj z
  · rintro rfl
    exact ⟨a, rfl, h⟩
set_option tactic.hygienic true in
theorem memT_rep {pins : List (Addr × Obj)} {σ : L2.St} {s : Shared} (I : Inv X pins σ H s) {x : V} {v : Value} {f : List Addr} {t : List D} {k : List Key} (hk : keysOf t = some k) (rx : Rep cl H (.tup t) x f) (rv : RelV x v) {A : Around} (hA : A.units + 2 < cLine) :
    ∀ {l : List D} {vs : List V} {us : List Value} {g : List Addr} {ks : List (List Key)}, tupKs l = some ks → RepL cl H l vs g → Vals vs us → (∀ u ∈ us, SeqAt.EqAt A s u v (isT H k u)) ∧ us.any (isT H k) = ks.any fun j => decide (j = k) := by
  intro x_0
  induction x_0 with
  | nil =>
    intro vs us g ks h r w
    (injection h with h; subst h)
    obtain ⟨e, _⟩ := r
    subst e
    cases w
    exact And.intro (fun u hu => absurd hu List.not_mem_nil) rfl
  | cons d l ih_ =>
    intro vs us g ks h r w
    obtain ⟨y, vr, f1, g1, e, _, r1, r2⟩ := r
    subst e
    cases w with
    | cons ry rr =>
      cases d with
      | tup m =>
        simp only [tupKs] at h
        split at h
        · rename_i j js hj hjs
          (injection h with h; subst h)
          obtain ⟨h1, h2⟩ := ih_ hjs r2 rr
          obtain ⟨a, ea, ha⟩ := tup_keys rfl r1 hj
          have ry0 := ry
          subst ea
          subst ry
          have e1 := isT_of (k := k) ha
          refine ⟨fun u hu => ?_, by rw [List.any_cons, List.any_cons, h2, e1]⟩
          rcases List.mem_cons.mp hu with rfl | hu
          · rw [e1]
            exact (eq_ok (n := 2) (a := .tup m) (b := .tup t) I (eqLs_keys hj hk) r1 rx ry0 rv hA).2.1
          · exact h1 u hu
        · injection h
      | _ => injection h
set_option tactic.hygienic true in
theorem memT_ok {d1 : D} {l : List D} {k : Bool} (hu : X.A.units + 8 < cLine) (h : memT d1 l = some k) : CmpOk X cl .In d1 (.lst l) k ∧ CmpOk X cl .NotIn d1 (.lst l) (!k) := by
  cases d1 with
  | tup t =>
    simp only [memT] at h
    split at h
    · rename_i j js hj hjs
      (injection h with h; subst h)
      have hA : X.A.in1.units + 2 < cLine := by show X.A.units + 1 + 2 < cLine; (clear hj hjs; omega)
      refine ⟨fun pins s σ H x y v u Q f g I rx ry r1 r2 q => ?_, fun pins s σ H x y v u Q f g I rx ry r1 r2 q => ?_⟩
      all_goals
        obtain ⟨a, vs, its, g', e1, _, il, vv, rl⟩ := lst_val I r2 ry
        subst e1
        obtain ⟨m1, m2⟩ := memT_rep I hj r1 rx hA hjs rl vv
        have m3 : its.toArray.any (isT H j) = js.any fun i => decide (i = j) := by rw [← m2]; simp
      · refine SeqAt.in_listAt (isT H j) il (fun w hw => m1 w (by simpa using hw)) ⟨.bl _, H, I, rfl, ?_⟩
        rw [m3]; exact q
      · refine SeqAt.notIn_listAt (isT H j) il (fun w hw => m1 w (by simpa using hw)) ⟨.bl _, H, I, rfl, ?_⟩
        rw [m3]; exact q
    · injection h
  | _ => injection h
end
section
variable {X : Cx} {cl : Nat → Addr} {M : Tab} {a b c e o : Expr} {es rest : List Expr} {pos p p2 apos : Pos} {a' b' c' e' o' : E} {es' : List E}
theorem isN_rep {d : D} {x : V} {H : Hp} {f : List Addr} (r : Rep cl H d x f) : decide (x = .non) = isNon d := by
  cases d
  case non => rw [r.1]; rfl
  case bl => rw [r.1]; rfl
  case int => rw [r.1]; rfl
  case str => rw [r.1]; rfl
  case tup => obtain ⟨a, vs, e, _, _⟩ := r; rw [e]; rfl
  case lst => obtain ⟨a, vs, f, e, _, _, _⟩ := r; rw [e]; rfl
  case dK => obtain ⟨a, f, kvs, e, _, _, _, _⟩ := r; rw [e]; rfl
  case dT => obtain ⟨a, f, kvs, e, _, _, _, _⟩ := r; rw [e]; rfl
  case obj => rcases r with ⟨a, dx, f, gs, e, _, _, _, _, _, _⟩ | ⟨a, e, _, _, _, _⟩ <;> (rw [e]; rfl)
theorem mem_dict {d1 d2 : D} {o : Option D} (hu : X.A.units + 1 < cLine) (h1 : dgetD d2 d1 = some o) : CmpOk X cl .In d1 d2 o.isSome ∧ CmpOk X cl .NotIn d1 d2 (!o.isSome) := by
  have key : ∀ {H : Hp} {x y : V} {f g : List Addr}, Rep cl H d1 x f → Rep cl H d2 y g → ∃ a o', y = .ref a ∧ DGet H a x o' ∧ o'.isSome = o.isSome := fun {H x y f g} r1 r2 => by
    obtain ⟨a, o', ey, _, dg, ho⟩ := dget_rep r2 r1 h1
    exact ⟨a, o', ey, dg, ho.elim (fun z => by rw [z.1, z.2]; rfl) fun z => by obtain ⟨_, _, _, z1, z2, _⟩ := z; rw [z1, z2]; rfl⟩
  refine ⟨fun pins s σ H x y v u Q f g I rx ry r1 r2 q => ?_, fun pins s σ H x y v u Q f g I rx ry r1 r2 q => ?_⟩
  · obtain ⟨a, o', ey, dg, eo⟩ := key r1 r2
    subst ey
    subst ry
    exact d_in hu I dg rx fun s3 I3 => ⟨.bl o'.isSome, H, I3, rfl, by rw [eo]; exact q⟩
  · obtain ⟨a, o', ey, dg, eo⟩ := key r1 r2
    subst ey
    subst ry
    exact d_notIn hu I dg rx fun s3 I3 => ⟨.bl (!o'.isSome), H, I3, rfl, by rw [eo]; exact q⟩
theorem mem_seq {d1 d2 : D} {l : List D} {k : Bool} (hk : (keyOf d1).isSome = true) (h : memL d1 l = some k) (rd : ∀ {H : Hp} {y : V} {g : List Addr}, Rep cl H d2 y g → ∃ p vs g', y = .ref p ∧ (SqL X.K H p vs ∨ SqT X.K H p vs) ∧ RepL cl H l vs g') : CmpOk X cl .In d1 d2 k ∧ CmpOk X cl .NotIn d1 d2 (!k) := by
  have flatx : ∀ {x : V} {H : Hp} {f : List Addr}, Rep cl H d1 x f → flatV x = true := fun {x H f} r => by
    cases d1 with
    | int i => rw [r.1]; rfl
    | str i => rw [r.1]; rfl
    | _ => injection hk
  have key : ∀ {H : Hp} {x y : V} {f g : List Addr}, Rep cl H d1 x f → Rep cl H d2 y g → ∃ p vs, y = .ref p ∧ (SqL X.K H p vs ∨ SqT X.K H p vs) ∧ flatV x = true ∧ vs.all flatV = true ∧ inV x vs = k := fun {H x y f g} r1 r2 => by
    obtain ⟨p, vs, g', e, hl, rl⟩ := rd r2
    obtain ⟨m1, m2, _⟩ := mem_rep r1 h rl
    exact ⟨p, vs, e, hl, flatx r1, m1, m2⟩
  refine ⟨CmpOk.of op_in_seq fun x y H Q f g r1 r2 q => ?_, CmpOk.of op_notIn_seq fun x y H Q f g r1 r2 q => ?_⟩
  · obtain ⟨p, vs, e, hl, fx, m1, m2⟩ := key r1 r2
    exact ⟨p, vs, e, hl, fx, m1, by rw [m2]; exact q⟩
  · obtain ⟨p, vs, e, hl, fx, m1, m2⟩ := key r1 r2
    exact ⟨p, vs, e, hl, fx, m1, by rw [m2]; exact q⟩
theorem mem_ok {d1 d2 : D} {k : Bool} (hu : X.A.units + 8 < cLine) (h : memD d1 d2 = some k) : CmpOk X cl .In d1 d2 k ∧ CmpOk X cl .NotIn d1 d2 (!k) := by
  have hu1 : X.A.units + 1 < cLine := by (clear h; omega)
  have dict : (match dgetD d2 d1 with | some o => some o.isSome | none => none) = some k → CmpOk X cl .In d1 d2 k ∧ CmpOk X cl .NotIn d1 d2 (!k) := fun h => by
    cases ho : dgetD d2 d1 with
    | none => rw [ho] at h; injection h
    | some o => rw [ho] at h; injection h with h; subst h; exact mem_dict hu1 ho
  cases d2 with
  | lst l =>
    by_cases hk : (keyOf d1).isSome = true
    · exact mem_seq hk ((if_pos hk).symm.trans h) fun r => let ⟨p, vs, g', e, hl, rl⟩ := lst_read (K := X.K) r; ⟨p, vs, g', e, .inl hl, rl⟩
    · exact memT_ok hu ((if_neg hk).symm.trans h)
  | tup l =>
    by_cases hk : (keyOf d1).isSome = true
    · exact mem_seq hk ((if_pos hk).symm.trans h) fun r => let ⟨p, vs, e, hl, rl⟩ := tup_read (K := X.K) r; ⟨p, vs, _, e, .inr hl, rl⟩
    · exact absurd ((if_neg hk).symm.trans h) (by intro z; injection z)
  | dK l => exact dict h
  | dT l => exact dict h
  | _ => exact dict h
theorem cmp_ok {o : Cp} {d1 d2 : D} {t : Bool} (hu : X.A.units + 8 < cLine) (h : cmpD o d1 d2 = .ok t) : CmpOk X cl (cpOf o) d1 d2 t := by
  have intc : ∀ {op : CmpOp} {g : Int → Int → Bool}, OpR X (compareOp op) (rI0 fun a b => .bl (g a b)) → i2 (fun a b => .ok (g a b)) d1 d2 = .ok t → CmpOk X cl op d1 d2 t := fun {op g} ho h => by
    obtain ⟨i, j, e1, e2, h⟩ := i2_ok h
    subst e1; subst e2
    injection h with h; subst h
    exact CmpOk.of ho fun x y H Q f g' r1 r2 q => ⟨i, j, r1.1, r2.1, q⟩
  have eqc : ∀ {g : Bool → Bool}, (match eqD d1 d2 with | some k => R.ok (g k) | none => .bad) = .ok t → ∃ k, eqD d1 d2 = some k ∧ g k = t := fun {g} h => by
    cases hk : eqD d1 d2 with
    | none => rw [hk] at h; injection h
    | some k => rw [hk] at h; injection h with h; exact ⟨k, rfl, h⟩
  have memc : ∀ {g : Bool → Bool}, (match memD d1 d2 with | some k => R.ok (g k) | none => .bad) = .ok t → ∃ k, memD d1 d2 = some k ∧ g k = t := fun {g} h => by
    cases hk : memD d1 d2 with
    | none => rw [hk] at h; injection h
    | some k => rw [hk] at h; injection h with h; exact ⟨k, rfl, h⟩
  have non2 : isNon d2 = true → d2 = .non := fun h => by
    cases d2 with
    | non => rfl
    | _ => injection h
  cases o with
  | eq =>
    obtain ⟨k, hk, e⟩ := eqc (g := id) h
    subst e
    exact CmpOk.of (op_eqD hu) fun x y H Q f g r1 r2 q => ⟨d1, d2, k, f, g, r1, r2, hk, q⟩
  | ne =>
    obtain ⟨k, hk, e⟩ := eqc h
    subst e
    exact CmpOk.of (op_neD hu) fun x y H Q f g r1 r2 q => ⟨d1, d2, k, f, g, r1, r2, hk, q⟩
  | lt => exact intc op_lt h
  | le => exact intc op_le h
  | gt => exact intc op_gt h
  | ge => exact intc op_ge h
  | isN =>
    obtain ⟨h1, h2⟩ := ite_ok h
    have := non2 h1
    subst this; subst h2
    exact CmpOk.of op_isN fun x y H Q f g r1 r2 q => ⟨r2.1, by rw [isN_rep r1]; exact q⟩
  | notN =>
    obtain ⟨h1, h2⟩ := ite_ok h
    have := non2 h1
    subst this; subst h2
    exact CmpOk.of op_notN fun x y H Q f g r1 r2 q => ⟨r2.1, by rw [isN_rep r1]; exact q⟩
  | mem =>
    obtain ⟨k, hk, e⟩ := memc (g := id) h
    subst e
    exact (mem_ok hu hk).1
  | nmem =>
    obtain ⟨k, hk, e⟩ := memc h
    subst e
    exact (mem_ok hu hk).2
theorem g_cmp {o : Cp} (hu : X.A.units + 8 < cLine) (hm : behindInMarks (cpOf o) b = false) (ha : GE X cl M a a') (hb : GE X cl M b b') : GE X cl M (.Compare a [cpOf o] [b] pos) (.cmp o a' b') ∧ GT X cl M (.Compare a [cpOf o] [b] pos) (.cmp o a' b') := by
  refine ⟨fun ρ d k h => ?_, fun ρ d k t h h2 => ?_⟩
  · rw [rE_cmp] at h
    obtain ⟨⟨x, kx⟩, h1, h⟩ := R.bind_ok h
    obtain ⟨⟨y, ky⟩, h2, h⟩ := R.bind_ok h
    obtain ⟨z, h3, h⟩ := R.bind_ok h
    obtain ⟨rfl, rfl⟩ := okp h
    exact e_cmp (cmp_ok hu h3).opR hm (ha ρ x kx h1) (hb ρ y ky h2) fun x y H Q f g r1 r2 q => ⟨f, g, r1, r2, q⟩
  · rw [rE_cmp] at h
    obtain ⟨⟨x, kx⟩, h1, h⟩ := R.bind_ok h
    obtain ⟨⟨y, ky⟩, h2', h⟩ := R.bind_ok h
    obtain ⟨z, h3, h⟩ := R.bind_ok h
    obtain ⟨rfl, rfl⟩ := okp h
    (injection h2 with h2; subst h2)
    exact t_cmp (cmp_ok hu h3).opR hm (ha ρ x kx h1) (hb ρ y ky h2') fun x y H Q f g r1 r2 q => ⟨f, g, r1, r2, q⟩
end
def Fresh (H H' : Hp) (fp : List Addr) : Prop := fp.Nodup ∧ ∀ a ∈ fp, H a = none ∧ NF H' a
theorem Fresh.nil {H H' : Hp} : Fresh H H' [] := ⟨List.nodup_nil, fun _ h => nomatch h⟩
theorem Fresh.one {H H' : Hp} {p : Addr} (h : H p = none) (h' : NF H' p) : Fresh H H' [p] := ⟨by simp, fun a ha => by rw [List.mem_singleton.mp ha]; exact ⟨h, h'⟩⟩
theorem Fresh.k {ρ : Env} {F : Nat → List Addr} {H H0 H1 H' : Hp} {fp : List Addr} (s : Same H H1) (h : Fresh H1 H' fp) : KOk ρ F H H0 H' fp (.sto []) := ⟨h.1, fun _ z => (nomatch z), fun a ha => .inl (s.free (h.2 a ha).1), fun a ha => (h.2 a ha).2⟩
theorem Fresh.kd {ρ : Env} {F : Nat → List Addr} {H H0 H1 H' : Hp} {fp : List Addr} {z : D} (s : Same H H1) (h : Fresh H1 H' fp) : KOk ρ F H H0 H' fp (kdOf z) := by
  unfold kdOf
  by_cases hz : z.flat = true
  · rw [if_pos hz]; exact h.k s
  · rw [if_neg hz]; exact True.intro
theorem nf_upd {H : Hp} {a : Addr} {o : HO} (h : ∀ ob u, o ≠ .frz ob u) : NF (upd H a o) a := fun ob u z => by rw [upd_same] at z; exact h ob u (Option.some.inj z)
section
variable {X : Cx} {cl : Nat → Addr} {M : Tab} {a b c e o : Expr} {es rest : List Expr} {pos p p2 apos cpos : Pos} {a' b' c' e' o' : E} {es' : List E}
theorem look_rep {H : Hp} {x : Str} : ∀ {fs : List (Str × D)} {gs : List (Str × V)} {f : List Addr}, fs.map (·.1) = gs.map (·.1) → RepL cl H (fs.map (·.2)) (gs.map (·.2)) f →
    (fs.lookup x = none ∧ gs.lookup x = none) ∨ ∃ d w fw, fs.lookup x = some d ∧ gs.lookup x = some w ∧ Rep cl H d w fw ∧ ∀ b ∈ fw, b ∈ f := by
  intro x_0
  induction x_0 with
  | nil =>
    intro x_1
    cases x_1 with
    | nil =>
      intro _ _ _
      exact .inl ⟨rfl, rfl⟩
    | cons _ _ =>
      intro _ e _
      simp at e
  | cons p_0 l ih_ =>
    obtain ⟨k1, d⟩ := p_0
    intro x_1
    cases x_1 with
    | nil =>
      intro _ e _
      simp at e
    | cons p_1 kvs =>
      obtain ⟨k2, v⟩ := p_1
      intro f e r
      rw [List.map_cons, List.map_cons] at e r
      injection e with e1 e2
      obtain ⟨v', vr, f1, g1, ev, ef, r1, r2⟩ := r
      injection ev with ev1 ev2
      subst ev1; subst ev2; subst ef
      have e1 : k1 = k2 := e1
      subst e1
      rw [List.lookup_cons, List.lookup_cons]
      cases hx : x == k1 with
      | true => exact .inr ⟨d, v, f1, rfl, rfl, r1, fun b hb => List.mem_append_left _ hb⟩
      | false =>
        rcases ih_ e2 r2 with z | ⟨dv, w, fw, z1, z2, z3, z4⟩
        · exact .inl z
        · exact .inr ⟨dv, w, fw, z1, z2, z3, fun b hb => List.mem_append_right _ (z4 b hb)⟩
theorem pe_xfldN {x : Str} {ta : TE} (he : PE X e ta) (hb : attributeBase e x X.env (eval e X.env) = eval e X.env) : PE X (.Attribute e x pos) (fun σ H Q => ta σ H fun y H1 => ∃ a C dx fs v, y = .ref a ∧ H1 a = some (excN a C (some dx)) ∧ H1 dx = some (excD dx fs) ∧ xgetIn X.K C x = true ∧ fs.lookup x = some v ∧ Q v H1) := by
  intro pins s σ H Q I h
  refine attr_of hb (thn (he pins s σ H _ I h) fun u s1 ⟨y, H1, I1, rx, a, C, dx, fs, v, ex, ea, ed, q, l, q1⟩ => ?_)
  subst ex
  obtain rfl : u = Value.ref a := rx
  obtain ⟨a0, hob⟩ := (I1.hok a _ ea).1
  obtain ⟨mA, hn, hrl, _⟩ := (I1.hok dx _ ed).1
  obtain ⟨u, hu, ru⟩ := RelO.some_of (v := v) (o := mA x) (by rw [← l]; exact hrl x)
  exact getx I1.kIn hob hn q hu (handed_of ru) ⟨v, H1, I1.tok _, ru, q1⟩
theorem g_fld {x : Str} (hb : attributeBase e x X.env (eval e X.env) = eval e X.env) (hc : ∀ c, xgetIn X.K (cl c) x = true) (he : GE X cl M e e') : GE X cl M (.Attribute e x pos) (.fld e' x) := fun ρ d k h => by
  rw [rE_fld] at h
  obtain ⟨⟨v, kv⟩, h1, h⟩ := R.bind_ok h
  cases v with
  | obj c fs =>
    simp only at h
    split at h
    · rename_i dv hl
      obtain ⟨rfl, rfl⟩ := okp h
      refine pe_imp (pe_xfldN (he ρ _ kv h1) hb) fun σ H Q ⟨H0, F, S, q⟩ => ⟨H0, F, S, fun w H1 fp s1 r1 k1 => ?_⟩
      have r1' := r1
      rcases r1 with ⟨a, dx, f, gs, e1, ef, ha, hd, ne, hn, r⟩ | ⟨a, e1, ef, ha, hn, r⟩
      · rcases look_rep (x := x) hn (RepF.l.mp r) with ⟨z, _⟩ | ⟨d2, w2, fw, z1, z2, z3, z4⟩
        · rw [hl] at z; injection z
        · rw [hl] at z1; (injection z1 with z1; subst z1)
          exact ⟨a, cl c, dx, gs, w2, e1, ha, hd, hc c, z2, q w2 H1 fw s1 z3 (part_ok z3 (fun b hb => by rw [ef]; exact List.mem_cons_of_mem _ (List.mem_cons_of_mem _ (z4 b hb))) k1)⟩
      · have e : fs = [] := List.map_eq_nil_iff.mp hn
        rw [e] at hl; injection hl
    · injection h
  | _ => injection h
theorem g_ix (hs : PlainIx b) (ha : GE X cl M a a') (hb : GE X cl M b b') : GE X cl M (.Subscript a b pos) (.ix a' b') := fun ρ d k h => by
  rw [rE_ix] at h
  obtain ⟨⟨x, kx⟩, h1, h⟩ := R.bind_ok h
  obtain ⟨⟨y, ky⟩, h2, h⟩ := R.bind_ok h
  obtain ⟨z, h3, h⟩ := R.bind_ok h
  obtain ⟨rfl, rfl⟩ := okp h
  exact e_ix h3 (ha ρ x kx h1) (hb ρ y ky h2) hs
theorem ga_nil : GA X cl M [] [] := fun ρ ds k h => by
  simp only [rEs_0, rEs_1, R.ok.injEq, Prod.mk.injEq] at h; obtain ⟨rfl, rfl⟩ := h; exact a_nil
theorem ga_cons (hs : starEach (e :: es) X.env = (false, eval e X.env) :: starEach es X.env) (h1 : GE X cl M e e') (h2 : GA X cl M es es') : GA X cl M (e :: es) (e' :: es') := fun ρ ds k h => by
  rw [rEs_1] at h
  obtain ⟨⟨x, kx⟩, g1, h⟩ := R.bind_ok h
  obtain ⟨⟨xs, ks⟩, g2, h⟩ := R.bind_ok h
  obtain ⟨rfl, rfl⟩ := okp h
  exact a_cons (h1 ρ x kx g1) (h2 ρ xs ks g2) hs
theorem g_lst (h : GA X cl M es es') : GE X cl M (.List es pos) (.lst es') := fun ρ d k hr => by
  rw [rE_lst] at hr
  obtain ⟨⟨xs, ks⟩, g2, hr⟩ := R.bind_ok hr
  simp only at hr
  split at hr
  · rename_i hl
    obtain ⟨rfl, rfl⟩ := okp hr
    exact e_lst (h ρ xs ks g2) hl
  · injection hr
theorem g_call {i kk : Nat} {f : Addr} {fd : FuncData} {ps : List Str} {x : Str} (F : FnOk X.prog X.w X.K X.mg X.base CX0 kk f fd ps (spP cl (M.fn i))) (hr : Room kk X.A) (hg : Gl X x) (hm : X.mg x = some (.ref f)) (hk : PySem.W.keepIn X.K (.ref f) = true) (hb : Binds X.K fd ps [])
    (hd : (x == ("__debug__" : Str)) = false) (he : starEach (e :: es) X.env = (false, eval e X.env) :: starEach es X.env) (hpl : (backTo pos (starEach es X.env)).any (·.1) = false) (ha : GA X cl M (e :: es) es') : GE X cl M (.Call (.Name x p) (e :: es) [] pos) (.call i es') := fun ρ d k h => by
  rw [rE_call] at h
  obtain ⟨⟨xs, ks⟩, g2, h⟩ := R.bind_ok h
  obtain ⟨r, g3, h⟩ := R.bind_ok h
  obtain ⟨rfl, rfl⟩ := okp h
  exact e_call F hr hg hm hk hb (ha ρ xs ks g2) g3 hd he hpl
end
def BiR (X : Cx) (cl : Nat → Addr) (f : Value) (ds : List D) (z : D) : Prop := CallR X f (fun xs H Q => ∃ fp, RepL cl H ds xs fp ∧ ∀ v H' fp', Same H H' → Rep cl H' z v fp' → Fresh H H' fp' → Q v H')
section
variable {X : Cx} {cl : Nat → Addr} {M : Tab} {a b c e o : Expr} {es rest : List Expr} {pos p p2 apos cpos : Pos} {a' b' c' e' o' : E} {es' : List E}
theorem rep1 {H : Hp} {d : D} {xs : List V} {fp : List Addr} (r : RepL cl H [d] xs fp) : ∃ x f, xs = [x] ∧ Rep cl H d x f := by
  obtain ⟨v, vr, f, g, e, _, r1, r2⟩ := r
  exact ⟨v, f, by rw [e, r2.1], r1⟩
theorem one_of {ds : List D} {z : D} {b : Bi} (h : biD b ds = .ok z) : ∃ d, ds = [d] := by
  match ds, h with
  | [d], _ => exact ⟨d, rfl⟩
theorem call_lenR : CallR X (.builtin "len") (fun xs H Q => ∃ a kvs, xs = [V.ref a] ∧ Rd H a (.dK kvs) ∧ Q (.int kvs.length) H) := by
  intro pins s σ H xs us Q I r h
  obtain ⟨a, kvs, rfl, ha, q⟩ := h
  obtain ⟨u, rfl, ru⟩ := vals1 r
  subst ru
  exact d_len I ha fun t s' I' => ⟨.int kvs.length, H, I', ⟨t, rfl⟩, q⟩
theorem bi_len {ds : List D} {z : D} (h : biD .len ds = .ok z) : BiR X cl (.builtin "len") ds z := by
  intro pins s σ H xs us Q I r hh_
  obtain ⟨fp, rl, q⟩ := hh_
  obtain ⟨d, rfl⟩ := one_of h
  obtain ⟨x, f, ex, rx⟩ := rep1 rl
  cases d with
  | lst l =>
    (injection h with h; subst h)
    obtain ⟨p, vs, g, e, hs, hl⟩ := lst_read (K := X.K) rx
    refine call_len_seq pins s σ H xs us Q I r ⟨p, vs, by rw [ex, e], .inl hs, ?_⟩
    rw [hl.len]
    exact q _ H [] (Same.refl H) ⟨rfl, rfl⟩ Fresh.nil
  | tup l =>
    (injection h with h; subst h)
    obtain ⟨p, vs, e, hs, hl⟩ := tup_read (K := X.K) rx
    refine call_len_seq pins s σ H xs us Q I r ⟨p, vs, by rw [ex, e], .inr hs, ?_⟩
    rw [hl.len]
    exact q _ H [] (Same.refl H) ⟨rfl, rfl⟩ Fresh.nil
  | dK l =>
    (injection h with h; subst h)
    obtain ⟨p, f', kvs, e, ef, ha, hk, rm⟩ := rx
    refine call_lenR pins s σ H xs us Q I r ⟨p, kvs, by rw [ex, e], ha, ?_⟩
    have : kvs.length = l.length := by have := congrArg List.length hk; simpa using this.symm
    rw [this]
    exact q _ H [] (Same.refl H) ⟨rfl, rfl⟩ Fresh.nil
  | _ => injection h
theorem bools_rep {H : Hp} : ∀ {l : List D} {vs : List V} {g : List Addr} {ns : List Bool}, boolsD l = some ns → RepL cl H l vs g → vs = ns.map V.bl := by
  intro x_0
  induction x_0 with
  | nil =>
    intro vs g n h r
    (injection h with h; subst h); exact r.1
  | cons d l ih_ =>
    intro vs g n h r
    obtain ⟨v, vr, f1, g1, ev, _, r1, r2⟩ := r
    cases d with
    | bl i =>
      simp only [boolsD] at h
      cases hm : boolsD l with
      | none => rw [hm] at h; injection h
      | some m =>
        rw [hm] at h
        (injection h with h; subst h)
        rw [ev, r1.1, ih_ hm r2]; rfl
    | _ => injection h
theorem bool_at {its : List Value} {bs : List Bool} (r : Vals (bs.map V.bl) its) {i : Nat} {v : Value} (h : its[i]? = some v) : ∃ b, bs[i]? = some b ∧ v = .bool b := by
  have hl := r.length
  rw [List.length_map] at hl
  have hi : i < its.length := (List.getElem?_eq_some_iff.mp h).1
  have hi' : i < bs.length := by (clear r h; omega)
  obtain ⟨u, hu, ru⟩ := r.get (i := i) (x := .bl bs[i]) (by rw [List.getElem?_map, List.getElem?_eq_getElem hi']; rfl)
  rw [h] at hu
  (injection hu with hu; subst hu)
  exact ⟨bs[i], List.getElem?_eq_getElem hi', ru⟩
theorem range_all' (bs : List Bool) : ((List.range bs.length).all fun i => (bs[i]?).getD true) = bs.all id := by
  rw [Bool.eq_iff_iff, List.all_eq_true, List.all_eq_true]
  constructor
  · intro h b hb
    obtain ⟨i, hi, rfl⟩ := List.getElem_of_mem hb
    have := h i (List.mem_range.mpr hi)
    simp only [List.getElem?_eq_getElem hi, Option.getD_some] at this
    exact this
  · intro h i hi
    have hi' := List.mem_range.mp hi
    simp only [List.getElem?_eq_getElem hi', Option.getD_some]
    exact h _ (List.getElem_mem hi')
theorem kept_it {s : Shared} {h' : Heap} {o : Obj} (hk : ∀ b x, b ∉ [s.heap.objs.size] → (s.heap.push o).get? b = some x → h'.get? b = some x) : ∀ b x, s.heap.get? b = some x → h'.get? b = some x :=
  fun b x e => hk b x (fun hm => by rw [List.mem_singleton.mp hm] at e; exact Nat.lt_irrefl _ (Heap.lt_size e)) (Heap.get?_push_of_some _ e)
set_option tactic.hygienic true in
theorem bi_all (hc : X.calm = true) {ds : List D} {z : D} (h : biD .all ds = .ok z) : BiR X cl (.builtin "all") ds z := by
  intro pins s σ H xs us Q I r hh_
  obtain ⟨fp, rl, q⟩ := hh_
  obtain ⟨d, rfl⟩ := one_of h
  cases d with
  | lst l =>
    simp only [biD_1, biD_2, biD_3, biD_4, biD_5, biD_6, biD_7, biD_8, biD_9, biD_10, biD_11, biD_12, biD_13, biD_14, biD_15, biD_16, biD_17, biD_18, biD_19] at h
    split at h
    · rename_i bs hb
      (injection h with h; subst h)
      obtain ⟨x, f, ex, rx⟩ := rep1 rl
      obtain ⟨p, vs, g, e, hs, hl⟩ := lst_read (K := X.K) rx
      have e1 := bools_rep hb hl
      subst ex; subst e; subst e1
      obtain ⟨u, rfl, rx'⟩ := vals1 r
      subst rx'
      obtain ⟨its, r', pl, hz⟩ := I.list hs
      have hlt : p < s.heap.objs.size := by obtain ⟨_, e, _⟩ := pl.isList; exact Heap.lt_size e
      refine call_all_walk (wpAny_pyIter_list pl.isList ?_)
      refine ⟨s.heap.objs.size, [s.heap.objs.size, p], [s.heap.objs.size], its.toArray.size, _, _, fun i => (bs[i]?).getD true, rfl, Walks.list (A := X.A.in1) (I.ok.hd hc) _ p (Nat.ne_of_lt hlt) its.toArray,
        ⟨⟨_, Heap.get?_push_size _ rfl, rfl, rfl⟩, pl.isList.push _⟩, fun i v s' Q' E' hP hQ => ?_, fun h' tk hk => ?_⟩
      · obtain ⟨b, e, rfl⟩ := bool_at r' (i := i) (v := v) (by simpa using hP)
        simp only [e, Option.getD_some] at hQ
        exact wpAny_truthy_bool hQ
      · have e : ((List.range its.toArray.size).all fun i => (bs[i]?).getD true) = bs.all id := by
          rw [List.size_toArray, ← r'.length, List.length_map]; exact range_all' bs
        rw [e]
        exact ⟨.bl _, H, I.kept (kept_it hk), rfl, q _ H [] (Same.refl H) ⟨rfl, rfl⟩ Fresh.nil⟩
    · injection h
  | _ => injection h
theorem repL_ints {H : Hp} : ∀ ns : List Int, RepL cl H (ns.map D.int) (ns.map V.int) [] := by
  intro x_0
  induction x_0 with
  | nil =>
    unfold RepL; exact ⟨rfl, rfl⟩
  | cons n r ih_ =>
    rw [List.map_cons, List.map_cons]
    unfold RepL
    exact ⟨_, _, [], [], rfl, rfl, ⟨rfl, rfl⟩, ih_⟩
end
section
variable {X : Cx} {cl : Nat → Addr} {M : Tab} {a b c e o : Expr} {es rest : List Expr} {pos p p2 apos cpos : Pos} {a' b' c' e' o' : E} {es' : List E}
theorem g_biF {bk : Bi} {id : String} {x : Str} (hB : ∀ ds z, biD bk ds = .ok z → BiR X cl (.builtin id) ds z) (hg : Gl X x) (hm : X.mg x = none) (hv : bootBuiltins x = some (.builtin id)) (hn : x ≠ "__name__") (hdb : (x == ("__debug__" : Str)) = false)
    (he : starEach (e :: es) X.env = (false, eval e X.env) :: starEach es X.env) (hpl : (backTo pos (starEach es X.env)).any (·.1) = false) (ha : GA X cl M (e :: es) es') : GE X cl M (.Call (.Name x p) (e :: es) [] pos) (.bi bk es') := fun ρ d k h => by
  rw [rE_bi] at h
  obtain ⟨⟨xs, ks⟩, g2, h⟩ := R.bind_ok h
  obtain ⟨r, g3, h⟩ := R.bind_ok h
  obtain ⟨rfl, rfl⟩ := okp h
  exact pe_imp (pe_callB (hB xs r g3) hg hm hv (ha ρ xs ks g2) hn hdb he hpl) fun σ H Q hh_ => (by obtain ⟨H0, F, S, q⟩ := hh_; exact (⟨H0, F, S, fun vs H1 fp s1 r1 _ => ⟨fp, r1, fun v H' fp' s2 r2 fr => q v H' fp' (s1.trans s2) r2 (Fresh.kd s1 fr)⟩⟩))
theorem g_biT {bk : Bi} {id : String} {x : Str} (hB : ∀ ds z, biD bk ds = .ok z → BiR X cl (.type id) ds z) (hg : Gl X x) (hm : X.mg x = none) (hv : bootBuiltins x = some (.type id)) (hn : x ≠ "__name__") (hdb : (x == ("__debug__" : Str)) = false)
    (he : starEach (e :: es) X.env = (false, eval e X.env) :: starEach es X.env) (hpl : (backTo pos (starEach es X.env)).any (·.1) = false) (ha : GA X cl M (e :: es) es') : GE X cl M (.Call (.Name x p) (e :: es) [] pos) (.bi bk es') := fun ρ d k h => by
  rw [rE_bi] at h
  obtain ⟨⟨xs, ks⟩, g2, h⟩ := R.bind_ok h
  obtain ⟨r, g3, h⟩ := R.bind_ok h
  obtain ⟨rfl, rfl⟩ := okp h
  exact pe_imp (pe_callTy (hB xs r g3) hg hm hv (ha ρ xs ks g2) hn hdb he hpl) fun σ H Q hh_ => (by obtain ⟨H0, F, S, q⟩ := hh_; exact (⟨H0, F, S, fun vs H1 fp s1 r1 _ => ⟨fp, r1, fun v H' fp' s2 r2 fr => q v H' fp' (s1.trans s2) r2 (Fresh.kd s1 fr)⟩⟩))
def tyOfD : D → Option String
  | .non => some "NoneType"
  | .bl _ => some "bool"
  | .int _ => some "int"
  | .str _ => some "str"
  | .tup _ => some "tuple"
  | .lst _ => some "list"
  | .dK _ => none
  | .dT _ => none
  | .obj _ _ => none
theorem tyOf_rep {K : PySem.W.Frag} {H : Hp} {d : D} {x : V} {f : List Addr} {T : String} (r : Rep cl H d x f) (h : tyOfD d = some T) : TyOf K H x (.type T) := by
  cases d with
  | non => (injection h with h; subst h); rw [r.1]; exact .non
  | bl b => (injection h with h; subst h); rw [r.1]; exact .bl b
  | int i => (injection h with h; subst h); rw [r.1]; exact .int i
  | str i => (injection h with h; subst h); rw [r.1]; exact .str i
  | tup l => (injection h with h; subst h); unfold Rep at r; obtain ⟨a, vs, e, ha, _⟩ := r; rw [e]; exact .tup ha
  | lst l =>
    (injection h with h; subst h); unfold Rep at r; obtain ⟨a, vs, f', e, _, _, ha⟩ := r; rw [e]
    rcases ha with ha | ⟨ob, ha⟩
    · exact .lst ha
    · exact .frz ha
  | dK l => injection h
  | dT l => injection h
  | obj _ _ => injection h
theorem g_isi {bk : Bi} {T : String} {x y : Str} {q1 : Pos} (hk : ∀ d z, biD bk [d] = .ok z → ∃ t T', z = .bl t ∧ tyOfD d = some T' ∧ PySem.W.kitOne X.K (.type T') (.type T) = some t)
    (hg : Gl X x) (hm : X.mg x = none) (hv : bootBuiltins x = some (.builtin "isinstance")) (hn : x ≠ "__name__") (hdb : (x == ("__debug__" : Str)) = false)
    (hg2 : Gl X y) (hm2 : X.mg y = none) (hv2 : bootBuiltins y = some (.type T)) (hn2 : y ≠ "__name__") (hdb2 : (y == ("__debug__" : Str)) = false)
    (he : starEach [a, .Name y q1] X.env = (false, eval a X.env) :: starEach [.Name y q1] X.env) (he2 : starEach [.Name y q1] X.env = (false, eval (.Name y q1) X.env) :: starEach [] X.env) (hpl : (backTo pos (starEach [.Name y q1] X.env)).any (·.1) = false)
    (ha : GE X cl M a a') : GE X cl M (.Call (.Name x p) [a, .Name y q1] [] pos) (.bi bk [a']) := fun ρ d k h => by
  rw [rE_bi] at h
  obtain ⟨⟨xs, ks⟩, g2, h⟩ := R.bind_ok h
  obtain ⟨r, g3, h⟩ := R.bind_ok h
  obtain ⟨rfl, rfl⟩ := okp h
  rw [rEs_1] at g2
  obtain ⟨⟨w, kw⟩, g4, g2⟩ := R.bind_ok g2
  simp only [rEs_0, rEs_1, R.ok_bind, R.pure_eq, R.ok.injEq, Prod.mk.injEq] at g2
  obtain ⟨rfl, _⟩ := g2
  obtain ⟨t, T', ez, eT, ek⟩ := hk w r g3
  subst ez
  have hc : CallR X (.builtin "isinstance") (fun xs H Q => ∃ x f, xs = [x, .ty T] ∧ Rep cl H w x f ∧ Q (.bl t) H) := by
    intro pins s σ H xs us Q I r hh_
    obtain ⟨x, f, e, rx, q⟩ := hh_
    subst e
    obtain ⟨u, v, rfl, ru, rv⟩ := Vals.two r
    subst rv
    exact isinst_ok I ru (tyOf_rep rx eT) ek fun tk => ⟨.bl t, H, I.tok tk, rfl, q⟩
  refine pe_imp (pe_callB hc hg hm hv (pa_cons (ha ρ w kw g4) (pa_cons (pe_bltn (v := .ty T) hg2 hm2 hv2 rfl hn2 hdb2) pa_nil he2) he) hn hdb he hpl) fun σ H Q ⟨H0, F, S, q⟩ => ⟨H0, F, S, fun v H1 fp s1 r1 _ => ⟨v, fp, rfl, r1, ?_⟩⟩
  exact q _ H1 [] s1 ⟨rfl, rfl⟩ (by rw [kd_imm (z := .bl t) rfl]; exact KOk.nil0)
theorem isi_int (K : PySem.W.Frag) : ∀ d z, biD .isInt [d] = .ok z → ∃ t T', z = .bl t ∧ tyOfD d = some T' ∧ PySem.W.kitOne K (.type T') (.type "int") = some t := fun d z h => by
  cases d with
  | int i => (injection h with h; subst h); exact ⟨true, _, rfl, rfl, rfl⟩
  | bl i => (injection h with h; subst h); exact ⟨true, _, rfl, rfl, rfl⟩
  | str i => (injection h with h; subst h); exact ⟨false, _, rfl, rfl, rfl⟩
  | _ => injection h
theorem isi_bool (K : PySem.W.Frag) : ∀ d z, biD .isBool [d] = .ok z → ∃ t T', z = .bl t ∧ tyOfD d = some T' ∧ PySem.W.kitOne K (.type T') (.type "bool") = some t := fun d z h => by
  cases d with
  | int i => (injection h with h; subst h); exact ⟨false, _, rfl, rfl, rfl⟩
  | bl i => (injection h with h; subst h); exact ⟨true, _, rfl, rfl, rfl⟩
  | str i => (injection h with h; subst h); exact ⟨false, _, rfl, rfl, rfl⟩
  | _ => injection h
theorem isi_list (K : PySem.W.Frag) : ∀ d z, biD .isList [d] = .ok z → ∃ t T', z = .bl t ∧ tyOfD d = some T' ∧ PySem.W.kitOne K (.type T') (.type "list") = some t := fun d z h => by
  cases d with
  | lst i => (injection h with h; subst h); exact ⟨true, _, rfl, rfl, rfl⟩
  | _ => injection h
def GO (X : Cx) (cl : Nat → Addr) (M : Tab) (e : Option Expr) (E' : E) : Prop := ∀ ρ d k i, runE M E' ρ = .ok (d, k) → optI E' d = some i → PO X e (fun σ H Q => ∃ H0 F, SOK cl H0 ρ F σ H ∧ ∀ H', Same H H' → Q i H')
theorem go_some (h : GE X cl M e e') (hn : isNil e' = false) : GO X cl M (some e) e' := fun ρ d k i h1 h2 => by
  have key : ∃ j, d = .int j ∧ i = some j := by
    have h2 : (match isNil e' with | true => some none | false => intO d) = some i := h2
    rw [hn] at h2
    cases d with
    | int j => injection h2 with h2; exact ⟨j, rfl, h2.symm⟩
    | _ => injection h2
  obtain ⟨j, rfl, rfl⟩ := key
  exact fun pins s σ H Q I hh_ => (by obtain ⟨H0, F, S, q⟩ := hh_; exact (po_some (h ρ _ k h1) pins s σ H Q I ⟨H0, F, S, fun v H1 fp s1 r1 _ => ⟨j, r1.1, q H1 s1⟩⟩))
theorem cutAt_eq (n : Nat) (d : Nat) (i : Option Int) : cutAt n d i = HT.sIx n d i := by
  cases i with
  | none => rfl
  | some i => rfl
theorem RepL.dropN {H : Hp} : ∀ (n : Nat) {l : List D} {vs : List V}, RepL cl H l vs [] → RepL cl H (l.drop n) (vs.drop n) [] := by
  intro x_0
  induction x_0 with
  | zero =>
    intro l vs h
    exact h
  | succ n ih_ =>
    intro x_1
    cases x_1 with
    | nil =>
      intro vs h
      obtain ⟨e, _⟩ := h; subst e; exact ⟨rfl, rfl⟩
    | cons d l =>
      intro vs h
      obtain ⟨v, vr, f, g, e, ef, r1, r2⟩ := h
      subst e
      have : f = [] ∧ g = [] := by simpa using ef.symm
      rw [this.2] at r2
      exact ih_ r2
theorem RepL.takeN {H : Hp} : ∀ (n : Nat) {l : List D} {vs : List V}, RepL cl H l vs [] → RepL cl H (l.take n) (vs.take n) [] := by
  intro x_0
  induction x_0 with
  | zero =>
    intro l vs h
    rw [List.take_zero, List.take_zero]; exact ⟨rfl, rfl⟩
  | succ n ih_ =>
    intro x_1
    cases x_1 with
    | nil =>
      intro vs h
      obtain ⟨e, _⟩ := h; subst e; exact ⟨rfl, rfl⟩
    | cons d l =>
      intro vs h
      obtain ⟨v, vr, f, g, e, ef, r1, r2⟩ := h
      subst e
      have : f = [] ∧ g = [] := by simpa using ef.symm
      rw [this.2] at r2
      rw [this.1] at r1
      rw [List.take_succ_cons, List.take_succ_cons]
      unfold RepL
      exact ⟨v, _, [], [], rfl, rfl, r1, ih_ r2⟩
theorem g_sl {lo hi : Option Expr} {l' h' : E} (ha : GE X cl M a a') (hl : GO X cl M lo l') (hh : GO X cl M hi h') : GE X cl M (.Subscript a (.Slice lo hi none p2) pos) (.sl a' l' h') := fun ρ d k h => by
  rw [rE_sl] at h
  obtain ⟨⟨x, kx⟩, g1, h⟩ := R.bind_ok h
  obtain ⟨⟨y, ky⟩, g2, h⟩ := R.bind_ok h
  obtain ⟨⟨z, kz⟩, g3, h⟩ := R.bind_ok h
  cases x with
  | lst l =>
   cases e1 : optI l' y with
   | none => simp only [e1] at h; injection h
   | some lo' =>
   cases e2 : optI h' z with
   | none => simp only [e1, e2] at h; injection h
   | some hi' =>
    simp only [e1, e2, slD_1] at h
    split at h
    · rename_i him
      simp only [R.ok.injEq, Prod.mk.injEq] at h; obtain ⟨rfl, rfl⟩ := h
      refine pe_imp (pe_slice sl_list (ha ρ _ kx g1) (hl ρ y ky lo' g2 e1) (hh ρ z kz hi' g3 e2)) fun σ H Q ⟨H0, F, S, q⟩ => ⟨H0, F, S, fun v H1 fp s1 r1 _ => ⟨H0, F, S.step s1, fun H2 s2 => ⟨H0, F, (S.step s1).step s2, fun H3 s3 => ?_⟩⟩⟩
      have r3 := (r1.same s2).same s3
      obtain ⟨p, vs, g, e, hs, hl'⟩ := lst_read (K := X.K) r3
      refine ⟨p, vs, e, hs, fun q1 hq => ?_⟩
      have eg := hl'.imm him
      subst eg
      have sn := Same.new (o := HO.lst (cutV vs lo' hi')) hq
      have rc : RepL cl H3 (cutD l lo' hi') (cutV vs lo' hi') [] := by
        unfold cutD cutV
        rw [cutAt_eq, cutAt_eq, ← hl'.len]
        exact (hl'.dropN _).takeN _
      refine q (.ref q1) _ [q1] (((s1.trans s2).trans s3).trans sn) ?_ ((Fresh.one hq (nf_upd (o := .lst (cutV vs lo' hi')) (by intro _ _ z; injection z))).k ((s1.trans s2).trans s3))
      unfold Rep
      exact ⟨q1, _, [], rfl, rfl, rc.same sn, .inl upd_same⟩
    · injection h
  | _ => injection h
end
end Vi
namespace L2
open PySem PySem.Spec PyProof.Rows
section
variable {X : Cx} {tg : Expr}
section
variable {prog : Program} {w : World} {A : Around} {E : Value → Shared → Prop} {s : Shared}
end
end
end L2
namespace Vi
open PySem PySem.Spec PyProof.Rows L2
section
variable {X : Cx} {cl : Nat → Addr} {M : Tab} {a b c e o : Expr} {es rest : List Expr} {pos p p2 apos cpos : Pos} {a' b' c' e' o' : E} {es' : List E}
theorem gi_each {tg iter : Expr} (h : GE X cl M iter e') : GI X cl M tg iter .each [e'] := fun ρ xs k hr => by
  rw [rI_1] at hr
  obtain ⟨⟨x, kx⟩, g1, hr⟩ := R.bind_ok hr
  simp only [rEs_0, rEs_1, R.ok_bind] at hr
  cases x with
  | lst l =>
    simp only [itemsD_1, itemsD_2, itemsD_3, itemsD_4, itemsD_5, R.pure_eq, R.ok.injEq, Prod.mk.injEq] at hr; obtain ⟨rfl, rfl⟩ := hr
    exact i_list (h ρ _ kx g1)
  | tup l =>
    simp only [itemsD_1, itemsD_2, itemsD_3, itemsD_4, itemsD_5, R.pure_eq, R.ok.injEq, Prod.mk.injEq] at hr; obtain ⟨rfl, rfl⟩ := hr
    exact i_tup (h ρ _ kx g1)
  | _ => injection hr
theorem run_args {ik : Itk} {it : List E} {ρ : Env} {xs : List D} {k : Kd} (h : runI M ik it ρ = .ok (xs, k)) : ∃ ds ks, runEs M it ρ = .ok (ds, ks) ∧ itemsD ik ds = some xs ∧ (ik = .range → k = .sto []) := by
  cases it with
  | nil => injection h
  | cons a r =>
    rw [rI_1] at h
    obtain ⟨⟨x, kx⟩, g1, h⟩ := R.bind_ok h
    obtain ⟨⟨ys, ky⟩, g2, h⟩ := R.bind_ok h
    simp only at h
    split at h
    · injection h
    · rename_i zs hz
      obtain ⟨rfl, rfl⟩ := okp h
      exact ⟨x :: ys, combK kx ky, by rw [rEs_1, g1]; simp [g2], hz, fun e => by subst e; rfl⟩
theorem es_one {ρ : Env} {ds : List D} {ks : Kd} (h : runEs M [a'] ρ = .ok (ds, ks)) : ∃ d, ds = [d] := by
  rw [rEs_1] at h
  obtain ⟨⟨x, kx⟩, g1, h⟩ := R.bind_ok h
  simp only [rEs_0, rEs_1, R.ok_bind, R.pure_eq, R.ok.injEq, Prod.mk.injEq] at h
  exact ⟨x, h.1.symm⟩
theorem gi_range1 {tg : Expr} (hg : Gl X "range") (hm : X.mg "range" = none) (hs : starEach [a] X.env = [(false, eval a X.env)]) (ha : GA X cl M [a] [a']) : GI X cl M tg (.Call (.Name "range" p) [a] [] pos) .range [a'] := fun ρ xs k hr => by
  obtain ⟨ds, ks, h1, h2, h3⟩ := run_args hr
  rw [h3 rfl]
  have hp := ha ρ ds ks h1
  obtain ⟨d, rfl⟩ := es_one h1
  cases d with
  | int n =>
    simp only [itemsD_1, itemsD_2, itemsD_3, itemsD_4, itemsD_5] at h2
    split at h2
    · rename_i hb
      (injection h2 with h2; subst h2)
      exact i_range1 hg hm hp hb hs
    · injection h2
  | _ => injection h2
theorem g_comp {tgE iter elt : Expr} {ifs : List Expr} {sc : Scope} {tg : List Nat} {one : Bool} {g : TG} {ik : Itk} {it : List E} (hc : X.calm = true) (Sc : CompSc X sc)
    (how : ∀ (i : Nat) (x : Str), X.N[i]? = some x → sc.names.lookup x = some NameKind.local → i ∈ tg) (hs : ∀ x, foldedSetIterable iter X.env x = pure x) (hi : GI X cl M tgE iter ik it) (hg : ∀ X', InC X sc X' → PG X' tgE g) (hB : BindOk cl tg one g)
    (ht : (ifs = [] ∧ c' = .bl true) ∨ ∃ c, ifs = [c] ∧ ∀ X', InC X sc X' → GT X' cl M c c') (he : ∀ X', InC X sc X' → GE X' cl M elt e') : GE X cl M (.ListComp elt [⟨tgE, iter, ifs, 0⟩] sc pos) (.comp e' tg one ik it c') := fun ρ d k h => by
  rw [rE_comp] at h
  obtain ⟨⟨xs, kx⟩, g1, h⟩ := R.bind_ok h
  simp only at h
  split at h
  · injection h
  · rename_i hl
    obtain ⟨⟨ys, b⟩, g2, h⟩ := R.bind_ok h
    obtain ⟨rfl, rfl⟩ := okp h
    refine e_comp hc Sc how (hi ρ xs kx g1) hg hB (by exact Nat.not_lt.mp ‹_›) ?_ (fun X' hX ρ d k e => he X' hX ρ d k e) g2 hs
    rcases ht with ⟨e1, e2⟩ | ⟨c, e1, ht⟩
    · refine .inl ⟨e1, fun ρ t ht => ?_⟩
      subst e2
      simp only [tru1, rE_bl, truD] at ht
      (injection ht with ht; subst ht); rfl
    · refine .inr ⟨c, e1, fun X' hX ρ t h2 => ?_⟩
      cases hr : runE M c' ρ with
      | ok q =>
        obtain ⟨x, kx⟩ := q
        rw [hr] at h2
        exact ht X' hX ρ x kx t hr h2
      | ex z => rw [hr] at h2; injection h2
      | bad => rw [hr] at h2; injection h2
end
section
variable {X : Cx} {cl : Nat → Addr} {M : Tab} {a b c e o : Expr} {es rest : List Expr} {pos p p2 apos cpos spos : Pos} {a' b' c' e' o' : E} {es' : List E} {st : Stmt} {sts sa sb : List Stmt} {s' : S} {ss sa' sb' : List S}
theorem gss_nil : GSs X cl M [] [] := fun ρ => by
  show PSs X [] (tSd cl ρ (asgs []) (runSs M [] ρ))
  rw [rSs_0, asgs]; exact ss_nil
theorem gss_cons (h1 : GS X cl M st s') (h2 : GSs X cl M sts ss) : GSs X cl M (st :: sts) (s' :: ss) := fun ρ => by
  show PSs X (st :: sts) (tSd cl ρ (asgs (s' :: ss)) (runSs M (s' :: ss) ρ))
  rw [rSs_1, asgs]
  exact ss_cons (h1 ρ) fun ρ' _ => h2 ρ'
theorem gs_set {i : Nat} {x : Str} {pos' : Pos} (hN : X.N.Nodup) (hi : X.N[i]? = some x) (hx : Loc X.env.scope x) (hs : swapsWith e (some (.Name x pos')) pos.line X.env = pure false) (hf : X.fn x = true ∨ X.env.scope.names.lookup x = some .local) (he : GE X cl M e e') :
    GS X cl M (.Assign [.Name x pos'] e pos) (.set i e') := fun ρ => by
  rw [rS_set]
  cases hr : runE M e' ρ with
  | ok q =>
    obtain ⟨d, k⟩ := q
    show PS X _ (tSd cl ρ _ (ofO (setSlot ρ i d k)))
    cases hs2 : setSlot ρ i d k with
    | none => exact s_bad
    | some ρ' => exact s_set (ps_set hN hi hx (he ρ d k hr) hs hf) hs2
  | ex z => exact s_ex
  | bad => exact s_bad
theorem gs_setComp {tgE iter elt : Expr} {ifs : List Expr} {sc : Scope} {tg : List Nat} {one : Bool} {g : TG} {ik : Itk} {it : List E} {i : Nat} {y : Str} {py : Pos} (hc : X.calm = true) (hN : X.N.Nodup) (hj : X.N[i]? = some y) (hy : Loc X.env.scope y) (Sc : CompSc X sc)
    (how : ∀ (i : Nat) (x : Str), X.N[i]? = some x → sc.names.lookup x = some NameKind.local → i ∈ tg) (hs : ∀ x, foldedSetIterable iter X.env x = pure x) (hsw : swapsWith (.ListComp elt [⟨tgE, iter, ifs, 0⟩] sc pos) (some (.Name y py)) spos.line X.env = pure true)
    (hf : X.fn y = true ∨ X.env.scope.names.lookup y = some .local) (hi : GI X cl M tgE iter ik it) (hg : ∀ X', InC X sc X' → PG X' tgE g) (hB : BindOk cl tg one g)
    (ht : (ifs = [] ∧ c' = .bl true) ∨ ∃ c, ifs = [c] ∧ ∀ X', InC X sc X' → GT X' cl M c c') (he : ∀ X', InC X sc X' → GE X' cl M elt e') : GS X cl M (.Assign [.Name y py] (.ListComp elt [⟨tgE, iter, ifs, 0⟩] sc pos) spos) (.set i (.comp e' tg one ik it c')) := fun ρ => by
  rw [rS_set, rE_comp]
  cases g1 : runI M ik it ρ with
  | ex z => exact s_ex
  | bad => exact s_bad
  | ok q =>
    obtain ⟨xs, kx⟩ := q
    simp only [R.ok_bind]
    split
    · exact s_bad
    · rename_i hl
      cases g2 : compL (turnC ρ tg one (fun ρ1 => tru1 (runE M c' ρ1)) (fun ρ1 => runE M e' ρ1)) xs with
      | ex z => exact s_ex
      | bad => exact s_bad
      | ok q =>
        obtain ⟨ys, bb⟩ := q
        simp only [R.ok_bind, R.pure_eq, ofR]
        cases hs2 : setSlot ρ i (.lst ys) (if bb = true then .sto [] else .bor) with
        | none => exact s_bad
        | some ρ' =>
          refine s_set (s_comp hc hN hj hy Sc how (hi ρ xs kx g1) hg hB (by exact Nat.not_lt.mp ‹_›) ?_ (fun X' hX ρ d k e => he X' hX ρ d k e) g2 hsw hf hs) hs2
          rcases ht with ⟨e1, e2⟩ | ⟨c, e1, ht⟩
          · refine .inl ⟨e1, fun ρ t ht => ?_⟩
            subst e2
            simp only [tru1, rE_bl, truD] at ht
            (injection ht with ht; subst ht); rfl
          · refine .inr ⟨c, e1, fun X' hX ρ t h2 => ?_⟩
            cases hr : runE M c' ρ with
            | ok q =>
              obtain ⟨x, kx⟩ := q
              rw [hr] at h2
              exact ht X' hX ρ x kx t hr h2
            | ex z => rw [hr] at h2; injection h2
            | bad => rw [hr] at h2; injection h2
theorem gs_ret (he : GE X cl M e e') : GS X cl M (.Return (some e) pos) (.ret e') := fun ρ => by
  rw [rS_ret]
  cases hr : runE M e' ρ with
  | ok q => obtain ⟨d, k⟩ := q; exact s_ret (he ρ d k hr)
  | ex z => exact s_ex
  | bad => exact s_bad
theorem gs_if (hc : GT X cl M c c') (ha : GSs X cl M sa sa') (hb : GSs X cl M sb sb') : GS X cl M (.If c sa sb pos) (.ifs c' sa' sb') := fun ρ => by
  rw [rS_ifs]
  cases hr : runE M c' ρ with
  | ok q =>
    obtain ⟨d, k⟩ := q
    simp only [ofR]
    cases ht : truD d with
    | ok t => exact s_if (hc ρ d k t hr ht) (fun _ => ha ρ) (fun _ => hb ρ)
    | ex z => exact s_ex
    | bad => exact s_bad
  | ex z => exact s_ex
  | bad => exact s_bad
theorem gs_for {tgE iter : Expr} {tg : List Nat} {one : Bool} {g : TG} {ik : Itk} {it : List E} (hp : PassesOwn (model X.prog X.w) X.A X.env X.xe) (hc : X.calm = true) (hs : ∀ x, foldedSetIterable iter X.env x = pure x) (hi : GI X cl M tgE iter ik it) (hg : PG X tgE g) (hB : BindOk cl tg one g) (hb : GSs X cl M sa sa') :
    GS X cl M (.For tgE iter sa [] pos) (.for tg one ik it sa') := fun ρ => by
  rw [rS_for]
  cases hr : runI M ik it ρ with
  | ok q =>
    obtain ⟨xs, k⟩ := q
    simp only [ofR]
    split
    · exact s_bad
    · rename_i hn
      have hn : noBor k = true := by simpa using hn
      exact s_for hp hc (hi ρ xs k hr) hn hg hB (fun ρ => hb ρ) hs
  | ex z => exact s_ex
  | bad => exact s_bad
set_option tactic.hygienic true in
theorem gs_app {i : Nat} (h : ∀ {te : TE}, PE X e te → PS X st (tDrop (tBM X.K "list" rAppend (tVar i) (tCons te tNil)))) (he : GE X cl M e e') : GS X cl M st (.app i e') := fun ρ => by
  rw [rS_app]
  cases hr : runE M e' ρ with
  | ok q =>
    obtain ⟨d, k⟩ := q
    simp only [ofR]
    split
    · rename_i l js hl
      split
      · rename_i hc
        exact s_app (h (he ρ d _ hr)) (ownL_some hl) hc
      · exact s_bad
    · exact s_bad
  | ex z => exact s_ex
  | bad => exact s_bad
set_option tactic.hygienic true in
theorem gs_clr {i : Nat} (h : PS X st (tDrop (tBM0 X.K "list" rClear (tVar i)))) : GS X cl M st (.clr i) := fun ρ => by
  rw [rS_clr]
  split
  · rename_i l hl; exact s_clr h (ownL_some hl)
  · exact s_bad
end
def compB (names : List (Str × NameKind)) (ko : Str → Option NameKind) : Bool := names.all fun y => match y.2 with
  | .cell => false
  | .local => names.lookup y.1 == some .local
  | .free => names.lookup y.1 == some .free && (ko y.1 == some .cell || ko y.1 == some .free)
  | _ => true
theorem compSc_of {X : Cx} {sc : Scope} (hk : sc.kind = .function) (h : compB sc.names X.env.kindOf = true) : CompSc X sc := by
  unfold compB at h
  rw [List.all_eq_true] at h
  refine ⟨hk, fun y hy e => ?_, fun y hy e => ?_, fun y hy e => ?_⟩
  · have := h y hy; rw [e] at this; injection this
  · have := h y hy; rw [e] at this; exact eq_of_beq this
  · have := h y hy
    rw [e] at this
    have this : (sc.names.lookup y.1 == some .free && (X.env.kindOf y.1 == some .cell || X.env.kindOf y.1 == some .free)) = true := this
    rw [Bool.and_eq_true, Bool.or_eq_true] at this
    exact ⟨eq_of_beq this.1, this.2.imp eq_of_beq eq_of_beq⟩
def howB (names : List (Str × NameKind)) (tg : List Nat) : List Str → Nat → Bool
  | [], _ => true
  | x :: r, i => (!(names.lookup x == some NameKind.local) || tg.contains i) && howB names tg r (i + 1)
theorem how_at {names : List (Str × NameKind)} {tg : List Nat} : ∀ {N : List Str} {k i : Nat} {x : Str}, howB names tg N k = true → N[i]? = some x → names.lookup x = some NameKind.local → k + i ∈ tg := by
  intro x_0
  induction x_0 with
  | nil =>
    intro _ _ _ _ h _
    simp at h
  | cons y r ih_ =>
    intro k x_2
    cases x_2 with
    | zero =>
      intro x h e l
      have e : y = x := by simpa using e
      subst e
      have h : ((!(names.lookup y == some NameKind.local) || tg.contains k) && howB names tg r (k + 1)) = true := h
      rw [Bool.and_eq_true, l] at h
      simpa using h.1
    | succ i =>
      intro x h e l
      have h : ((!(names.lookup y == some NameKind.local) || tg.contains k) && howB names tg r (k + 1)) = true := h
      rw [Bool.and_eq_true] at h
      have := ih_ h.2 (by simpa using e) l
      rwa [show k + 1 + i = k + (i + 1) by exact Nat.add_right_comm _ _ _] at this
theorem how_of {X : Cx} {sc : Scope} {tg : List Nat} (h : howB sc.names tg X.N 0 = true) : ∀ (i : Nat) (x : Str), X.N[i]? = some x → sc.names.lookup x = some NameKind.local → i ∈ tg := fun i x e l => by
  have := how_at h e l
  rwa [Nat.zero_add] at this
structure Lnk (P : Program) (w : World) (K : PySem.W.Frag) (mg : Str → Option Value) (base : Heap) (cl : Nat → Addr) (x : Str) (lev : Nat) (ps : List Str) (m : List D → R D) : Prop where
  ex : ∃ f fd, FnOk P w K mg base CX0 lev f fd ps (spP cl m) ∧ mg x = some (.ref f) ∧ PySem.W.keepIn K (.ref f) = true ∧ Binds K fd ps []
section
variable {X : Cx} {cl : Nat → Addr} {M : Tab} {a b c e o : Expr} {es rest : List Expr} {pos p p2 apos cpos : Pos} {a' b' c' e' o' : E} {es' : List E}
theorem g_callL {i lev kk : Nat} {ps : List Str} {x : Str} (L : Lnk X.prog X.w X.K X.mg X.base cl x lev ps (M.fn i)) (hr : Room kk X.A) (hl : lev ≤ kk) (hg : Gl X x)
    (hd : (x == ("__debug__" : Str)) = false) (he : starEach (e :: es) X.env = (false, eval e X.env) :: starEach es X.env) (hpl : (backTo pos (starEach es X.env)).any (·.1) = false) (ha : GA X cl M (e :: es) es') : GE X cl M (.Call (.Name x p) (e :: es) [] pos) (.call i es') := by
  obtain ⟨f, fd, F, hm, hk, hb⟩ := L.ex
  exact g_call F (hr.mono hl) hg hm hk hb hd he hpl ha
theorem g_cmpE {o : Cp} (hu : X.A.units + 8 < cLine) (hm : behindInMarks (cpOf o) b = false) (ha : GE X cl M a a') (hb : GE X cl M b b') : GE X cl M (.Compare a [cpOf o] [b] pos) (.cmp o a' b') := (g_cmp hu hm ha hb).1
theorem gt_cmp {o : Cp} (hu : X.A.units + 8 < cLine) (hm : behindInMarks (cpOf o) b = false) (ha : GE X cl M a a') (hb : GE X cl M b b') : GT X cl M (.Compare a [cpOf o] [b] pos) (.cmp o a' b') := (g_cmp hu hm ha hb).2
theorem hu8 {kk : Nat} {A : Around} (hr : Room kk A) : A.units + 8 < cLine := by have := hr.units; (clear hr; omega)
end
end Vi
namespace L2
open PySem PySem.Spec PyProof.Rows
section
variable {X : Cx} {pins : List (Addr × Obj)} {σ : St} {H : Hp} {s : Shared}
end
end L2
namespace Vi
open PySem PySem.Spec PyProof.Rows L2
section
variable {X : Cx} {cl : Nat → Addr} {M : Tab} {a b c e o : Expr} {es rest : List Expr} {pos p p2 apos cpos : Pos} {a' b' c' e' o' : E} {es' : List E}
theorem bi_list {ds : List D} {z : D} (h : biD .list ds = .ok z) : BiR X cl (.type "list") ds z := by
  intro pins s σ H xs us Q I r hh_
  obtain ⟨fp, rl, q⟩ := hh_
  obtain ⟨d, rfl⟩ := one_of h
  obtain ⟨x, f, ex, rx⟩ := rep1 rl
  have fin : ∀ {l : List D} {vs : List V} {g : List Addr} {p : Addr}, immL l = true → RepL cl H l vs g → x = .ref p → (SqL X.K H p vs ∨ SqT X.K H p vs) → z = .lst l → wpAny (model X.prog X.w) X.A (call (.type "list") us) (EP X pins σ Q) X.xe s := fun {l vs g p} him hl e hs ez => by
    refine call_list_of pins s σ H xs us Q I r ⟨p, vs, by rw [ex, e], hs, fun q1 hq => ?_⟩
    have eg := hl.imm him
    subst eg
    have sn := Same.new (o := HO.lst vs) hq
    refine q (.ref q1) _ [q1] sn ?_ (Fresh.one hq (nf_upd (o := .lst vs) (by intro _ _ z; injection z)))
    rw [ez]
    unfold Rep
    exact ⟨q1, _, [], rfl, rfl, hl.same sn, .inl upd_same⟩
  cases d with
  | lst l =>
    rw [biD_7] at h
    split at h
    · rename_i him
      (injection h with h; subst h)
      obtain ⟨p, vs, g, e, hs, hl⟩ := lst_read (K := X.K) rx
      exact fin him hl e (.inl hs) rfl
    · injection h
  | tup l =>
    rw [biD_20] at h
    split at h
    · rename_i him
      (injection h with h; subst h)
      obtain ⟨p, vs, e, hs, hl⟩ := tup_read (K := X.K) rx
      exact fin him hl e (.inr hs) rfl
    · injection h
  | _ => injection h
end
open PySem (Str)
def PostW (cl : Nat → Addr) (H0 : Hp) (σ : L2.St) (ws : List Nat) (D' : Ends) : Out → Prop
  | .rt d => ∀ v H' fp, Same H0 H' → Rep cl H' d v fp → D'.rt v H'
  | o => PostO cl H0 σ ws D' o
section
variable {X : Cx} {cl : Nat → Addr} {M : Tab} {ρ ρ' : Env} {c e : Expr} {c' e' : E} {st : Stmt} {s : S} {rst : List Stmt} {pos p : Pos} {ws ws' : List Nat} {o : Out} {H0 : Hp} {σ σ1 : L2.St} {D' : Ends} {f : Env → Out}
theorem PostW.step (h : PostW cl H0 σ (ws ++ ws') D' o) (hs : ∀ j, j ∉ ws → σ1[j]? = σ[j]?) : PostW cl H0 σ1 ws' D' o := by
  cases o with
  | rt d => exact h
  | nx ρ => exact PostO.step (o := .nx ρ) h hs
  | bk ρ => exact PostO.step (o := .bk ρ) h hs
  | ct ρ => exact PostO.step (o := .ct ρ) h hs
  | ex x => exact h
  | bad => exact h
end
section
variable {P : Program} {w : World} {K : PySem.W.Frag} {mg : Str → Option Value} {base : Heap} {cl : Nat → Addr}
end
section
variable {X : Cx} {cl : Nat → Addr} {M : Tab} {ρ : Env} {c e : Expr} {c' e' : E} {ws : List Nat} {H0 H H1 B : Hp} {σ : L2.St} {D' : Ends} {F : Nat → List Addr} {d : D} {v : V} {fp : List Addr} {i t : Nat} {ns : List Int} {J : It}
def runX (par slots : Nat) (f : Env → Out) (ds : List D) : R D := if ds.length = par ∧ par ≤ slots then
    (match f (ds.map (fun d => some (d, false)) ++ List.replicate (slots - par) none) with
    | .rt d => .ok d
    | _ => .bad) else .bad
end
section
variable {P : Program} {w : World} {K : PySem.W.Frag} {mg : Str → Option Value} {base : Heap} {cl : Nat → Addr}
set_option tactic.hygienic true in
theorem fn_okX {x qual : Str} {st : Stmt} {f : Addr} {fd : FuncData} {N ps : List Str} {kk par slots : Nat} {f0 : Env → Out} {ws : List Nat} (Fu : Fun K x qual st f fd) (Sc : FnScope N ps (defScope st)) (hps : ps.length = par) (hN : N.length = slots)
    (hb : ∀ (cdv : Value) (A : Around) (outer : List PySem.Env) (s : Shared) (H : Hp) (E : XK), Room kk (A.deeper (envOfC qual (defScope st) s.heap.objs.size f cdv)) →
      ∀ ρ, PSs (cxOf CX0 P w K mg base N qual (defScope st) f cdv A outer s H E).nox (defBody st) (tSd cl ρ ws (f0 ρ))) :
    FnOk P w K mg base CX0 (kk + 1) f fd ps (spP cl (runX par slots f0)) := by
  refine Fu.ok Sc (fun vs H Q E h => ?_) fun cdv A outer s H vs Q E hr h => ?_
  · obtain ⟨ds, fp, r, rl, e, _⟩ := h
    unfold runX at e
    split at e
    · rename_i hc
      rw [rl.len, hc.1, hps]
    · injection e
  · obtain ⟨ds, fp, r, rl, e, cont⟩ := h
    unfold runX at e
    split at e
    · rename_i hc
      obtain ⟨F, S⟩ := start_sok rl hN (by rw [hc.1]; exact hc.2)
      rw [hc.1] at S
      refine ⟨_, hb cdv A outer s H E hr (ds.map (fun d => some (d, false)) ++ List.replicate (slots - par) none), H, F, S, ?_⟩
      split at e
      · rename_i d hd
        injection e with e; subst e
        rw [hd]
        exact fun v H' fp' s' r' n' m' => cont v H' fp' s' r' n' m'
      · injection e
    · injection e
end
section
variable {X : Cx} {cl : Nat → Addr} {M : Tab}
theorem gy_cons {st : Stmt} {s : S} {rst : List Stmt} {ws : List Nat} {f : Env → Out} (h1 : GS X cl M st s) (h2 : ∀ ρ, PSs X rst (tSd cl ρ ws (f ρ))) : ∀ ρ, PSs X (st :: rst) (tSd cl ρ (asg s ++ ws) ((runS M s ρ).bind f)) := fun ρ => ss_cons (h1 ρ) fun ρ' _ => h2 ρ'
end
section
variable {X : Cx} {cl : Nat → Addr} {M : Tab} {ρ : Env} {a e : Expr} {a' e' : E} {i : Nat} {l ds : List D} {d : D} {pos p4 : Pos} {es : List Expr} {es' : List E}
theorem e_catO (ha : PE X a (tD cl ρ (.lst l) (.sto [i]))) (hes : PA X es (tDs cl ρ ds (.sto []))) (hc : l.length + ds.length ≤ 1000000) : PE X (.BinOp a .Add (.List es p4) pos) (tD cl ρ (.lst (l ++ ds)) (.sto [i])) := by
  have hd : PE X (.List es p4) (tD cl ρ (.lst ds) (dispK (.sto []))) := e_lst hes (by omega)
  refine pe_imp (pe_op op_catR ha hd) fun σ H Q ⟨H0, F, S, q⟩ => ⟨H0, F, S, fun v H1 fp s1 r1 k1 => ⟨H0, F, S.step s1, fun w H5 fw s5 r5 k5 => ?_⟩⟩
  obtain ⟨p, vs, g, ev, ef, rl, hp⟩ := r1
  obtain ⟨b, zs, f, ew, efw, rz, hz⟩ := r5
  have lv : vs.length = l.length := rl.len
  have lz : zs.length = ds.length := rz.len
  have hp5 : Rd H5 p (.lst vs) := by
    rcases hp with h | ⟨o, h⟩
    · exact .inl (s5 _ _ h)
    · exact .inr ⟨o, s5 _ _ h⟩
  refine ⟨p, b, vs, zs, ev, ew, hp5, hz, by rw [lv, lz]; exact size_ok hc, fun q1 hq => ?_⟩
  have sn := Same.new (o := HO.lst (vs ++ zs)) hq
  have r6 : RepL cl (upd H5 q1 (HO.lst (vs ++ zs))) (l ++ ds) (vs ++ zs) (g ++ f) := RepL.append ((rl.same s5).same sn) (rz.same sn)
  obtain ⟨n1, o1, m1, z1⟩ := k1
  obtain ⟨n5, o5, m5, z5⟩ : KOk ρ F H1 H0 H5 fw (.sto []) := k5
  have gfp : ∀ x ∈ g, x ∈ fp := fun x hx => by rw [ef]; exact List.mem_cons_of_mem _ hx
  have ffw : ∀ x ∈ f, x ∈ fw := fun x hx => by rw [efw]; exact List.mem_cons_of_mem _ hx
  have gd : ∀ x ∈ g, H1 x ≠ none := rl.dom
  have fnew : ∀ x ∈ f, H1 x = none := fun x hx => by
    rcases m5 x (ffw x hx) with z | ⟨j, hj, _⟩
    · exact z
    · exact nomatch hj
  have dom5 : ∀ x ∈ g ++ f, H5 x ≠ none := fun x hx => by
    rcases List.mem_append.mp hx with z | z
    · exact (rl.same s5).dom x z
    · exact rz.dom x z
  refine q (.ref q1) _ (q1 :: (g ++ f)) ((s1.trans s5).trans sn) ?_ ⟨List.nodup_cons.mpr ⟨fun z => dom5 q1 z hq, List.nodup_append.mpr ⟨?_, ?_, fun x hx y hy exy => ?_⟩⟩, o1, fun x hx => ?_, fun x hx => ?_⟩
  · unfold Rep
    exact ⟨q1, _, _, rfl, rfl, r6, .inl upd_same⟩
  · rw [ef] at n1; exact (List.nodup_cons.mp n1).2
  · rw [efw] at n5; exact (List.nodup_cons.mp n5).2
  · subst exy
    exact gd x hx (fnew x hy)
  · rcases List.mem_cons.mp hx with z | z
    · rw [z]; exact .inl ((s1.trans s5).free hq)
    · rcases List.mem_append.mp z with z | z
      · exact m1 x (gfp x z)
      · exact .inl (s1.free (fnew x z))
  · rcases List.mem_cons.mp hx with z | z
    · rw [z]; intro o u q'; rw [upd_same] at q'; (injection q' with q'; injection q')
    · rcases List.mem_append.mp z with z | z
      · exact ((z1 x (gfp x z)).same s5 (gd x z)).same sn (dom5 x (List.mem_append_left _ z))
      · exact (z5 x (ffw x z)).same sn (dom5 x (List.mem_append_right _ z))
def catS (M : Tab) (i : Nat) (es' : List E) (ρ : Env) : Out := match getV ρ i with
  | .ok (.lst l, .sto [_]) => (match runEs M es' ρ with
    | .ok (ds, .sto []) => if l.length + ds.length ≤ 1000000 ∧ i < ρ.length then .nx (ρ.set i (some (.lst (l ++ ds), true))) else .bad
    | _ => .bad)
  | _ => .bad
set_option tactic.hygienic true in
theorem gx_catS {x : Str} {pos' : Pos} (hN : X.N.Nodup) (hi : X.N[i]? = some x) (hx : Loc X.env.scope x) (hs : swapsWith (.BinOp a .Add (.List es p4) pos) (some (.Name x pos')) p.line X.env = pure false) (hf : X.fn x = true ∨ X.env.scope.names.lookup x = some .local) (ha : GE X cl M a (.var i)) (hes : GA X cl M es es') :
    ∀ ρ, PS X (.Assign [.Name x pos'] (.BinOp a .Add (.List es p4) pos) p) (tSd cl ρ [i] (catS M i es' ρ)) := fun ρ => by
  unfold catS
  split
  · rename_i l t h
    split
    · rename_i ds h2
      split
      · rename_i hc
        have hv := ha ρ _ _ (by rw [rE_var]; exact h)
        have ht : t = i := by
          unfold getV at h
          split at h
          · rename_i d o _
            injection h with h
            obtain ⟨h3, h4⟩ := Prod.mk.inj h
            subst h3
            rw [if_neg (show ¬ (D.lst l).imm = true from Bool.false_ne_true)] at h4
            cases o with
            | true => rw [if_pos rfl] at h4; injection h4 with h4; injection h4 with h4; exact h4.symm
            | false => rw [if_neg Bool.false_ne_true] at h4; cases h4
          · injection h
        subst ht
        refine s_set (ps_set hN hi hx (e_catO hv (hes ρ _ _ h2) hc.1) hs hf) ?_
        unfold setSlot
        rw [if_pos hc.2]
        show some ((ρ.set t none).set t _) = _
        rw [List.set_set]
      · exact s_bad
    · exact s_bad
  · exact s_bad
end
section
variable {X : Cx} {cl : Nat → Addr} {M : Tab} {a : Expr} {a' : E} {pos p : Pos}
theorem g_intB {x : Str} (hg : Gl X x) (hm : X.mg x = none) (hv : bootBuiltins x = some (.type "int")) (hn : x ≠ "__name__") (hdb : (x == ("__debug__" : Str)) = false)
    (he : starEach [a] X.env = (false, eval a X.env) :: starEach [] X.env) (hpl : (backTo pos (starEach [] X.env)).any (·.1) = false) (ha : GE X cl M a a') : GE X cl M (.Call (.Name x p) [a] [] pos) (.ife (.and a' (.bl true)) (.int 1) (.int 0)) := fun ρ d k h => by
  obtain ⟨t, kw, g4, hd, hk⟩ : ∃ t kw, runE M a' ρ = .ok (.bl t, kw) ∧ d = .int (if t = true then 1 else 0) ∧ k = .sto [] := by
    rw [rE_ife, rE_and] at h
    cases hA : runE M a' ρ with
    | ex z => rw [hA] at h; injection h
    | bad => rw [hA] at h; injection h
    | ok z =>
      obtain ⟨w, kw⟩ := z
      rw [hA] at h
      cases w with
      | bl t =>
        cases t with
        | true =>
          have h : R.ok (D.int 1, Kd.sto []) = R.ok (d, k) := h
          obtain ⟨rfl, rfl⟩ := okp h
          exact ⟨true, kw, rfl, rfl, rfl⟩
        | false =>
          have h : R.ok (D.int 0, Kd.sto []) = R.ok (d, k) := h
          obtain ⟨rfl, rfl⟩ := okp h
          exact ⟨false, kw, rfl, rfl, rfl⟩
      | _ => injection h
  subst hd hk
  have hc : CallR X (.type "int") (fun xs H Q => xs = [.bl t] ∧ Q (.int (if t = true then 1 else 0)) H) := by
    intro pins s σ H xs us Q I r hh_
    obtain ⟨e, q⟩ := hh_
    subst e
    obtain ⟨u, rfl, ru⟩ := Vals.one r
    subst ru
    exact call_int_bool ⟨.int (if t = true then 1 else 0), H, I.tok _, ⟨_, rfl⟩, q⟩
  refine pe_imp (pe_callTy hc hg hm hv (pa_cons (ha ρ _ kw g4) pa_nil he) hn hdb he hpl) fun σ H Q ⟨H0, F, S, q⟩ => ⟨H0, F, S, fun v H1 fp s1 r1 _ => ?_⟩
  exact ⟨by rw [r1.1], q _ H1 [] s1 ⟨rfl, rfl⟩ KOk.nil0⟩
end
abbrev small (m : Int) : Prop := m.natAbs.log2 < 1920
def newF (c : Nat) (f : Str) : List D → R D
  | [.int m] => if small m then .ok (.obj c [(f, .int m)]) else .bad
  | _ => .bad
def newF2 (c : Nat) (f g : Str) : List D → R D
  | [.int m, .int n] => if small m ∧ small n then .ok (.obj c [(f, .int m), (g, .int n)]) else .bad
  | _ => .bad
def newP (c : Nat) : List D → R D
  | [] => .ok (.obj c [])
  | [.str _] => .ok (.obj c [])
  | _ => .bad
def isF (b : Nat → Bool) : List D → R D
  | [.obj c _] => .ok (.bl (b c))
  | _ => .bad
def spN1 (C : Addr) (f : Str) : Sp := fun vs H Q _ => ∃ (a : Addr) (m : Int), vs = [.ref a, .int m] ∧ small m ∧ H a = some (excN a C none) ∧ ∀ dx, H dx = none → Q .non (upd (upd H dx (excD dx [(f, .int m)])) a (excN a C (some dx)))
def spN2 (C : Addr) (f g : Str) : Sp := fun vs H Q _ => ∃ (a : Addr) (m n : Int), vs = [.ref a, .int m, .int n] ∧ small m ∧ small n ∧ H a = some (excN a C none) ∧ ∀ dx, H dx = none → Q .non (upd (upd (upd H dx (excD dx [(f, .int m)])) a (excN a C (some dx))) dx (excD dx [(f, .int m), (g, .int n)]))
section
variable {X : Cx} {cl : Nat → Addr} {M : Tab} {e e2 : Expr} {e' e2' : E} {p pos p2 : Pos} {i c k : Nat} {C fi : Addr} {fd : FuncData} {ps : List Str} {f g x : Str} {B Bn newId nid initId inN : String} {bmB bmN : List Value}
theorem nf_ext {H : Hp} {a : Addr} {φ : Heap → Prop} (h : H a = some (.ext φ)) : NF H a := fun o u z => by rw [h] at z; (injection z with z; injection z)
set_option tactic.hygienic true in
theorem g_newI (hC : cl c = C) (hfn : M.fn i = newF c f) (hg : Gl X x) (hm : X.mg x = some (.ref C)) (hk : PySem.W.keepIn X.K (.ref C) = true) (hr : Room (k + 1) X.A) (q : excOwn X.K C fi bmB newId = true) (Fn : ExcBaseFacts Bn newId inN bmN) (hBn : bmB.contains (.type Bn) = true) (F : ExcBaseFacts B nid initId bmB)
    (Fi : FnOk X.prog X.w X.K X.mg X.base CX0 k fi fd ps (spN1 C f)) (hb : Binds X.K fd ps []) (hdb : (x == ("__debug__" : Str)) = false) (hst : starEach [e] X.env = (false, eval e X.env) :: starEach [] X.env) (hpl : (backTo pos (starEach [] X.env)).any (·.1) = false)
    (he : GE X cl M e e') : GE X cl M (.Call (.Name x p) [e] [] pos) (.call i [e']) := fun ρ d kd h => by
  rw [rE_call] at h
  obtain ⟨⟨xs, ks⟩, g2, h⟩ := R.bind_ok h
  obtain ⟨r, g3, h⟩ := R.bind_ok h
  obtain ⟨rfl, rfl⟩ := okp h
  rw [hfn] at g3
  unfold newF at g3
  split at g3
  · rename_i m
    split at g3
    · rename_i hsm
      injection g3 with g3
      subst g3
      refine pe_imp (pe_newO hg hm hk hr q Fn hBn F Fi hb ((ga_cons hst he ga_nil) ρ _ ks g2) hdb hst hpl) fun σ H Q ⟨H0, F', S, qq⟩ => ⟨H0, F', S, fun vs H1 fp s1 r1 k1 => ?_⟩
      obtain ⟨v, vr, f1, f2, rfl, _, ⟨rfl, _⟩, r2⟩ := r1
      obtain ⟨rfl, _⟩ := r2
      refine ⟨by show 1 ≤ sizeLine; rw [sizeLine_eq]; decide, fun a ha => ⟨a, m, rfl, hsm, upd_same, fun dx hdx => ⟨rfl, ?_⟩⟩⟩
      have na : dx ≠ a := fun z => by rw [z, upd_same] at hdx; injection hdx
      have hd1 : H1 dx = none := by rw [upd_ne na] at hdx; exact hdx
      have sm : Same H (upd (upd (upd H1 a (excN a C none)) dx (excD dx [(f, .int m)])) a (excN a C (some dx))) := fun b o e => by
        have e1 := s1 b o e
        rw [upd_ne (ne_of_none e1 ha), upd_ne (ne_of_none e1 hd1), upd_ne (ne_of_none e1 ha)]; exact e1
      have hA : (upd (upd (upd H1 a (excN a C none)) dx (excD dx [(f, .int m)])) a (excN a C (some dx))) a = some (excN a C (some dx)) := upd_same
      have hD : (upd (upd (upd H1 a (excN a C none)) dx (excD dx [(f, .int m)])) a (excN a C (some dx))) dx = some (excD dx [(f, .int m)]) := by rw [upd_ne na, upd_same]
      refine qq (.ref a) _ [a, dx] sm ?_ ⟨List.nodup_cons.mpr ⟨fun z => na (List.mem_singleton.mp z).symm, by simp⟩, fun _ z => (nomatch z), fun b hb => ?_, fun b hb => ?_⟩
      · unfold Rep
        exact .ex a dx [] [(f, .int m)] rfl rfl (by rw [hC]; exact hA) hD na rfl ⟨.int m, [], [], [], rfl, rfl, ⟨rfl, rfl⟩, ⟨rfl, rfl⟩⟩
      · rcases List.mem_cons.mp hb with z | z
        · rw [z]; exact .inl (s1.free ha)
        · rw [List.mem_singleton.mp z]; exact .inl (s1.free hd1)
      · rcases List.mem_cons.mp hb with z | z
        · rw [z]; exact nf_ext hA
        · rw [List.mem_singleton.mp z]; exact nf_ext hD
    · injection g3
  · injection g3
set_option tactic.hygienic true in
theorem g_newII (hC : cl c = C) (hfn : M.fn i = newF2 c f g) (hg : Gl X x) (hm : X.mg x = some (.ref C)) (hk : PySem.W.keepIn X.K (.ref C) = true) (hr : Room (k + 1) X.A) (q : excOwn X.K C fi bmB newId = true) (Fn : ExcBaseFacts Bn newId inN bmN) (hBn : bmB.contains (.type Bn) = true) (F : ExcBaseFacts B nid initId bmB)
    (Fi : FnOk X.prog X.w X.K X.mg X.base CX0 k fi fd ps (spN2 C f g)) (hb : Binds X.K fd ps []) (hdb : (x == ("__debug__" : Str)) = false) (hst : starEach [e, e2] X.env = (false, eval e X.env) :: starEach [e2] X.env) (hst2 : starEach [e2] X.env = (false, eval e2 X.env) :: starEach [] X.env) (hpl : (backTo pos (starEach [e2] X.env)).any (·.1) = false)
    (he : GE X cl M e e') (he2 : GE X cl M e2 e2') : GE X cl M (.Call (.Name x p) [e, e2] [] pos) (.call i [e', e2']) := fun ρ d kd h => by
  rw [rE_call] at h
  obtain ⟨⟨xs, ks⟩, g2, h⟩ := R.bind_ok h
  obtain ⟨r, g3, h⟩ := R.bind_ok h
  obtain ⟨rfl, rfl⟩ := okp h
  rw [hfn] at g3
  unfold newF2 at g3
  split at g3
  · rename_i m n
    split at g3
    · rename_i hsm
      injection g3 with g3
      subst g3
      refine pe_imp (pe_newO hg hm hk hr q Fn hBn F Fi hb ((ga_cons hst he (ga_cons hst2 he2 ga_nil)) ρ _ ks g2) hdb hst hpl) fun σ H Q ⟨H0, F', S, qq⟩ => ⟨H0, F', S, fun vs H1 fp s1 r1 k1 => ?_⟩
      obtain ⟨v, vr, f1, f2, rfl, _, ⟨rfl, _⟩, r2⟩ := r1
      obtain ⟨v2, vr2, f3, f4, rfl, _, ⟨rfl, _⟩, r3⟩ := r2
      obtain ⟨rfl, _⟩ := r3
      refine ⟨by show 2 ≤ sizeLine; rw [sizeLine_eq]; decide, fun a ha => ⟨a, m, n, rfl, hsm.1, hsm.2, upd_same, fun dx hdx => ⟨rfl, ?_⟩⟩⟩
      have na : dx ≠ a := fun z => by rw [z, upd_same] at hdx; injection hdx
      have hd1 : H1 dx = none := by rw [upd_ne na] at hdx; exact hdx
      generalize hH : (upd (upd (upd (upd H1 a (excN a C none)) dx (excD dx [(f, .int m)])) a (excN a C (some dx))) dx (excD dx [(f, .int m), (g, .int n)])) = H3
      have sm : Same H H3 := fun b o e => by
        have e1 := s1 b o e
        rw [← hH, upd_ne (ne_of_none e1 hd1), upd_ne (ne_of_none e1 ha), upd_ne (ne_of_none e1 hd1), upd_ne (ne_of_none e1 ha)]; exact e1
      have hA : H3 a = some (excN a C (some dx)) := by rw [← hH, upd_ne (Ne.symm na), upd_same]
      have hD : H3 dx = some (excD dx [(f, .int m), (g, .int n)]) := by rw [← hH, upd_same]
      refine qq (.ref a) _ [a, dx] sm ?_ ⟨List.nodup_cons.mpr ⟨fun z => na (List.mem_singleton.mp z).symm, by simp⟩, fun _ z => (nomatch z), fun b hb => ?_, fun b hb => ?_⟩
      · unfold Rep
        exact .ex a dx [] [(f, .int m), (g, .int n)] rfl rfl (by rw [hC]; exact hA) hD na rfl ⟨.int m, [.int n], [], [], rfl, rfl, ⟨rfl, rfl⟩, ⟨.int n, [], [], [], rfl, rfl, ⟨rfl, rfl⟩, ⟨rfl, rfl⟩⟩⟩
      · rcases List.mem_cons.mp hb with z | z
        · rw [z]; exact .inl (s1.free ha)
        · rw [List.mem_singleton.mp z]; exact .inl (s1.free hd1)
      · rcases List.mem_cons.mp hb with z | z
        · rw [z]; exact nf_ext hA
        · rw [List.mem_singleton.mp z]; exact nf_ext hD
    · injection g3
  · injection g3
theorem newP_fin {ρ : Vi.Env} {F' : Nat → List Addr} {H H0 H1 : Hp} {a : Addr} {Q : VK} (hC : cl c = C) (s1 : Same H H1) (ha : H1 a = none) (qq : ∀ v H' fp, Same H H' → Rep cl H' (.obj c []) v fp → KOk ρ F' H H0 H' fp (.sto []) → Q v H') : Q (.ref a) (upd H1 a (excN a C none)) := by
  have hA : upd H1 a (excN a C none) a = some (excN a C none) := upd_same
  refine qq (.ref a) _ [a] (s1.trans (Same.new ha)) ?_ ⟨by simp, fun _ z => (nomatch z), fun b hb => ?_, fun b hb => ?_⟩
  · unfold Rep
    exact .e0 a rfl rfl (by rw [hC]; exact hA) rfl ⟨rfl, rfl⟩
  · rw [List.mem_singleton.mp hb]; exact .inl (s1.free ha)
  · rw [List.mem_singleton.mp hb]; exact nf_ext hA
set_option tactic.hygienic true in
theorem g_newP (hC : cl c = C) (hfn : M.fn i = newP c) (hg : Gl X x) (hm : X.mg x = some (.ref C)) (hk : PySem.W.keepIn X.K (.ref C) = true) (q : PySem.W.excIn X.K C bmB newId = true) (Fn : ExcBaseFacts Bn newId inN bmN) (hBn : bmB.contains (.type Bn) = true) (F : ExcBaseFacts B nid initId bmB)
    (hdb : (x == ("__debug__" : Str)) = false) (hst : starEach [e] X.env = (false, eval e X.env) :: starEach [] X.env) (hpl : (backTo pos (starEach [] X.env)).any (·.1) = false) (he : GE X cl M e e') : GE X cl M (.Call (.Name x p) [e] [] pos) (.call i [e']) := fun ρ d kd h => by
  rw [rE_call] at h
  obtain ⟨⟨xs, ks⟩, g2, h⟩ := R.bind_ok h
  obtain ⟨r, g3, h⟩ := R.bind_ok h
  obtain ⟨rfl, rfl⟩ := okp h
  rw [hfn] at g3
  have hl : xs.length ≤ 1 ∧ r = .obj c [] := by
    unfold newP at g3
    split at g3
    · injection g3 with g3; exact ⟨Nat.zero_le _, g3.symm⟩
    · injection g3 with g3; exact ⟨Nat.le_refl _, g3.symm⟩
    · injection g3
  obtain ⟨hl, rfl⟩ := hl
  refine pe_imp (pe_newP hg hm hk q Fn hBn F ((ga_cons hst he ga_nil) ρ _ ks g2) hdb hst hpl) fun σ H Q ⟨H0, F', S, qq⟩ => ⟨H0, F', S, fun vs H1 fp s1 r1 k1 => ⟨?_, fun a ha => newP_fin hC s1 ha qq⟩⟩
  rw [r1.len, sizeLine_eq]
  exact Nat.le_trans hl (by decide)
theorem g_newP0 (hC : cl c = C) (hfn : M.fn i = newP c) (hg : Gl X x) (hm : X.mg x = some (.ref C)) (hk : PySem.W.keepIn X.K (.ref C) = true) (q : PySem.W.excIn X.K C bmB newId = true) (Fn : ExcBaseFacts Bn newId inN bmN) (hBn : bmB.contains (.type Bn) = true) (F : ExcBaseFacts B nid initId bmB)
    (hdb : (x == ("__debug__" : Str)) = false) : GE X cl M (.Call (.Name x p) [] [] pos) (.call i []) := fun ρ d kd h => by
  rw [rE_call] at h
  obtain ⟨⟨xs, ks⟩, g2, h⟩ := R.bind_ok h
  obtain ⟨r, g3, h⟩ := R.bind_ok h
  obtain ⟨rfl, rfl⟩ := okp h
  rw [rEs_0] at g2
  injection g2 with g2
  injection g2 with g2 _
  subst g2
  rw [hfn] at g3
  injection g3 with g3
  subst g3
  exact pe_imp (pe_newP0 hg hm hk q Fn hBn F hdb) fun σ H Q ⟨H0, F', S, qq⟩ => ⟨Nat.zero_le _, fun a ha => newP_fin hC (Same.refl H) ha qq⟩
set_option tactic.hygienic true in
theorem g_isV {b : Nat → Bool} {cv : Value} {cc : V} (hfn : M.fn i = isF b) (hcc : ∀ u, RelV cc u → u = cv) (hcl : PE X e2 (tC cc)) (hb : X.mg "isinstance" = none) (hg : Gl X "isinstance") (hq : ∀ c, xcHead X.K (cl c) = true ∧ PySem.W.kitOne X.K (.ref (cl c)) cv = some (b c)) (hbt : bootBuiltins "isinstance" = some (.builtin "isinstance"))
    (hst : starEach [e, e2] X.env = (false, eval e X.env) :: starEach [e2] X.env) (hst2 : starEach [e2] X.env = (false, eval e2 X.env) :: starEach [] X.env) (hpl : (backTo pos (starEach [e2] X.env)).any (·.1) = false) (he : GE X cl M e e') : GE X cl M (.Call (.Name "isinstance" p) [e, e2] [] pos) (.call i [e']) := fun ρ d kd h => by
  rw [rE_call] at h
  obtain ⟨⟨xs, ks⟩, g2, h⟩ := R.bind_ok h
  obtain ⟨r, g3, h⟩ := R.bind_ok h
  obtain ⟨rfl, rfl⟩ := okp h
  rw [hfn] at g3
  unfold isF at g3
  split at g3
  · rename_i c fs
    injection g3 with g3
    subst g3
    rw [rEs_1] at g2
    obtain ⟨⟨v, kv⟩, g4, g2⟩ := R.bind_ok g2
    simp only [rEs_0, R.ok_bind, R.pure_eq, R.ok.injEq, Prod.mk.injEq, List.cons.injEq, and_true] at g2
    obtain ⟨rfl, _⟩ := g2
    refine pe_imp (pe_callB (call_isN hcc) hg hb hbt (pa_cons (he ρ _ _ g4) (pa_cons hcl pa_nil hst2) hst) (by decide) (by decide) hst hpl) fun σ H Q ⟨H0, F', S, qq⟩ => ⟨H0, F', S, fun w H1 fp s1 r1 k1 => ?_⟩
    rcases r1 with ⟨a, dx, f, gs, e1, ef, ha, hd, ne, hn, r⟩ | ⟨a, e1, ef, ha, hn, r⟩
    · exact ⟨a, cl c, some dx, b c, by rw [e1], ha, (hq c).1, (hq c).2, qq _ H1 [] s1 ⟨rfl, rfl⟩ KOk.nil0⟩
    · exact ⟨a, cl c, none, b c, by rw [e1], ha, (hq c).1, (hq c).2, qq _ H1 [] s1 ⟨rfl, rfl⟩ KOk.nil0⟩
  · injection g3
theorem g_isE {b : Nat → Bool} {n : Str} {G : Addr} (hfn : M.fn i = isF b) (hgn : Gl X n) (hm : X.mg n = some (.ref G)) (hb : X.mg "isinstance" = none) (hg : Gl X "isinstance") (hq : ∀ c, xcHead X.K (cl c) = true ∧ PySem.W.kitOne X.K (.ref (cl c)) (.ref G) = some (b c)) (hbt : bootBuiltins "isinstance" = some (.builtin "isinstance")) (hn : (n == ("__debug__" : Str)) = false)
    (hst : starEach [e, .Name n p2] X.env = (false, eval e X.env) :: starEach [.Name n p2] X.env) (hst2 : starEach [.Name n p2] X.env = (false, eval (.Name n p2) X.env) :: starEach [] X.env) (hpl : (backTo pos (starEach [.Name n p2] X.env)).any (·.1) = false) (he : GE X cl M e e') : GE X cl M (.Call (.Name "isinstance" p) [e, .Name n p2] [] pos) (.call i [e']) :=
  g_isV (cc := .ref G) hfn (fun u z => z) (fun pins s σ H Q I h => ld_glob I hgn hm ⟨.ref G, H, I, rfl, h⟩ hn) hb hg hq hbt hst hst2 hpl he
theorem g_isT {b : Nat → Bool} {n : Str} {T : String} (hfn : M.fn i = isF b) (hgn : Gl X n) (hm : X.mg n = none) (ht : bootBuiltins n = some (.type T)) (hb : X.mg "isinstance" = none) (hg : Gl X "isinstance") (hq : ∀ c, xcHead X.K (cl c) = true ∧ PySem.W.kitOne X.K (.ref (cl c)) (.type T) = some (b c)) (hbt : bootBuiltins "isinstance" = some (.builtin "isinstance")) (hn : (n == ("__debug__" : Str)) = false) (hnn : n ≠ "__name__")
    (hst : starEach [e, .Name n p2] X.env = (false, eval e X.env) :: starEach [.Name n p2] X.env) (hst2 : starEach [.Name n p2] X.env = (false, eval (.Name n p2) X.env) :: starEach [] X.env) (hpl : (backTo pos (starEach [.Name n p2] X.env)).any (·.1) = false) (he : GE X cl M e e') : GE X cl M (.Call (.Name "isinstance" p) [e, .Name n p2] [] pos) (.call i [e']) :=
  g_isV (cc := .ty T) hfn (fun u z => z) (fun pins s σ H Q I h => ld_blt I hgn hm ht ⟨.ty T, H, I, rfl, h⟩ hnn hn) hb hg hq hbt hst hst2 hpl he
end
end Vi
namespace L2
open PySem PySem.Spec PyProof.Rows
section
variable {X : Cx}
theorem call_strI : CallR X (.type "str") (fun xs H Q => ∃ m : Int, xs = [.int m] ∧ m.natAbs.log2 < 1920 ∧ Q (.str (toString m)) H) := by
  intro pins s σ H xs us Q I r h
  obtain ⟨m, rfl, hb, q⟩ := h
  cases r with
  | cons r1 r2 =>
    cases r2
    obtain ⟨t, rfl⟩ := r1
    exact P.str_of_int hb ⟨.str (toString m), H, I.tok _, ⟨_, rfl⟩, q⟩
theorem strs_of : ∀ {ts : List Str} {its : List Value}, Vals (ts.map V.str) its → ∃ l : List (Str × Tok), its = strValues l ∧ l.map (·.1) = ts := by
  intro ts
  induction ts with
  | nil => intro its r; cases r; exact ⟨[], rfl, rfl⟩
  | cons x ts ih =>
    intro its r
    cases r with
    | cons r1 r2 =>
      obtain ⟨t, rfl⟩ := r1
      obtain ⟨l, rfl, e⟩ := ih r2
      exact ⟨(x, t) :: l, rfl, by rw [List.map_cons, e]⟩
def rJoin : V → List V → Hp → VK → Prop := fun x xs H Q => ∃ sep a ts, x = .str sep ∧ xs = [.ref a] ∧ Rd H a (.lst (ts.map V.str)) ∧ JoinOk sep ts = true ∧ Q (.str (Txt.join sep ts)) H
theorem mt_join : MtR X "str.join" rJoin := by
  intro pins s σ H x xs v us Q I rx r h
  obtain ⟨sep, a, ts, rfl, rfl, hH, hok, q⟩ := h
  obtain ⟨t, rfl⟩ := rx
  cases r with
  | cons r1 r2 =>
    cases r2
    cases r1
    have ol : OLst s.heap a (ts.map V.str) := by
      rcases hH with z | ⟨o, z⟩
      · exact I.hok a _ z
      · exact (I.hok a _ z).2
    obtain ⟨_, its, n, rv, e⟩ := ol
    obtain ⟨l, rfl, hl⟩ := strs_of rv
    exact SC.join ⟨_, e, rfl, n, rfl⟩ hl hok fun t' k => ⟨.str (Txt.join sep ts), H, I.tok _, ⟨_, rfl⟩, q⟩
variable {es : List Expr} {B : Nat} {c : St → Prop} {x n : Str} {i k : Nat} {pos pos' : Pos}
theorem pj_var (L : Nat) (hN : X.N[i]? = some n) (hv : Vis X.env.scope n) (hr : PJ X es B c) (hd : (n == ("__debug__" : Str)) = false := by decide) (hcd : (n == ("__classdict__" : Str)) = false := by decide)
    (he : evalEach (.FormattedValue (.Name n pos') (-1) none pos :: es) X.env = eval (.FormattedValue (.Name n pos') (-1) none pos) X.env :: evalEach es X.env := by rfl) :
    PJ X (.FormattedValue (.Name n pos') (-1) none pos :: es) (L + B) (fun σ => (∃ m : Str, σ[i]? = some (some (.str m)) ∧ m.length ≤ L) ∧ c σ) := fun pins s σ H acc Q I hc hl h => by
  obtain ⟨⟨m, hm, hb⟩, hc⟩ := hc
  rw [he]
  refine wpAny_FormattedValue_plain (thn (pe_var hN hv hd hcd pins s σ H (fun v H1 => v = .str m ∧ H1 = H) I ⟨_, hm, rfl, rfl⟩) fun u s1 ⟨v, H1, I1, rv, e1, e2⟩ => ?_)
  subst e1 e2
  obtain ⟨t, rfl⟩ := rv
  refine wpAny_formatField_str ⟨_, _, rfl, ?_, hr pins _ σ H1 _ Q I1 hc ?_ h⟩ ⟨_, _, rfl, ?_, hr pins _ σ H1 _ Q (I1.tok _) hc ?_ h⟩
  · rw [strLen_append]; omega
  · rw [strLen_append]; omega
  · rw [strLen_append]; omega
  · rw [strLen_append]; omega
end
end L2
namespace Vi
open PySem PySem.Spec PyProof.Rows L2
open PySem (Str)
def strF : List D → R D
  | [.int m] => if small m then .ok (.str (toString m)) else .bad
  | _ => .bad
def strsD : List D → Option (List Str)
  | [] => some []
  | .str x :: r => (strsD r).map (x :: ·)
  | _ => none
def joinF (sep : Str) : List D → R D
  | [.lst l] => match strsD l with
    | some ts => if JoinOk sep ts = true then .ok (.str (Txt.join sep ts)) else .bad
    | none => .bad
  | _ => .bad
theorem strsD_of : ∀ {l : List D} {ts : List Str}, strsD l = some ts → l = ts.map D.str := by
  intro l
  induction l with
  | nil => intro ts h; injection h with h; rw [← h]; rfl
  | cons d r ih =>
    intro ts h
    cases d with
    | str x =>
      obtain ⟨tr, e, h⟩ := Option.map_eq_some_iff.mp h
      rw [← h, ih e]; rfl
    | _ => injection h
theorem rep_strs {cl : Nat → Addr} {H : Hp} : ∀ {ts : List Str} {vs : List V} {f : List Addr}, RepL cl H (ts.map D.str) vs f → vs = ts.map V.str := by
  intro ts
  induction ts with
  | nil => intro vs f r; exact r.1
  | cons x ts ih =>
    intro vs f r
    obtain ⟨v, vr, f1, f2, rfl, _, ⟨rfl, _⟩, r2⟩ := r
    rw [ih r2]; rfl
section
variable {X : Cx} {cl : Nat → Addr} {M : Tab} {e : Expr} {e' : E} {p pos p1 apos : Pos} {i kk : Nat} {sep : Str}
set_option tactic.hygienic true in
theorem g_strI (hfn : M.fn i = strF) (hg : Gl X "str") (hm : X.mg "str" = none) (hbt : bootBuiltins "str" = some (.type "str")) (hst : starEach [e] X.env = (false, eval e X.env) :: starEach [] X.env) (hpl : (backTo pos (starEach [] X.env)).any (·.1) = false) (he : GE X cl M e e') : GE X cl M (.Call (.Name "str" p) [e] [] pos) (.call i [e']) := fun ρ d kd h => by
  rw [rE_call] at h
  obtain ⟨⟨xs, ks⟩, g2, h⟩ := R.bind_ok h
  obtain ⟨r, g3, h⟩ := R.bind_ok h
  obtain ⟨rfl, rfl⟩ := okp h
  rw [hfn] at g3
  unfold strF at g3
  split at g3
  · rename_i m
    split at g3
    · rename_i hsm
      injection g3 with g3
      subst g3
      refine pe_imp (pe_callTy call_strI hg hm hbt ((ga_cons hst he ga_nil) ρ _ ks g2) (by decide) (by decide) hst hpl) fun σ H Q ⟨H0, F', S, qq⟩ => ⟨H0, F', S, fun vs H1 fp s1 r1 k1 => ?_⟩
      obtain ⟨v, vr, f1, f2, rfl, _, ⟨rfl, _⟩, r2⟩ := r1
      obtain ⟨rfl, _⟩ := r2
      exact ⟨m, rfl, hsm, qq _ H1 [] s1 ⟨rfl, rfl⟩ KOk.nil0⟩
    · injection g3
  · injection g3
set_option tactic.hygienic true in
theorem g_join (hfn : M.fn i = joinF sep) (hbase : attributeBase (.Constant (.str sep) kk p1) "join" X.env (eval (.Constant (.str sep) kk p1) X.env) = eval (.Constant (.str sep) kk p1) X.env)
    (hfew : ((backTo pos (starEach [e] X.env)).all (fun x => !x.1) && (backToKw pos (keywordEach [] X.env)).all (fun x => x.1.isSome) && decide ([e].length + ([] : List Keyword).length + (if ([] : List Keyword).isEmpty then 0 else 1) < 30)) = true)
    (hline : (apos.endLine == pos.line) = true) (hst : starEach [e] X.env = (false, eval e X.env) :: starEach [] X.env) (hpl : (backTo pos (starEach [] X.env)).any (·.1) = false) (he : GE X cl M e e') : GE X cl M (.Call (.Attribute (.Constant (.str sep) kk p1) "join" apos) [e] [] pos) (.call i [e']) := fun ρ d kd h => by
  rw [rE_call] at h
  obtain ⟨⟨xs, ks⟩, g2, h⟩ := R.bind_ok h
  obtain ⟨r, g3, h⟩ := R.bind_ok h
  obtain ⟨rfl, rfl⟩ := okp h
  rw [hfn] at g3
  unfold joinF at g3
  split at g3
  · rename_i l
    split at g3
    · rename_i ts hts
      split at g3
      · rename_i hok
        injection g3 with g3
        subst g3
        have el := strsD_of hts
        subst el
        refine pe_imp (pe_bm PySem.F.plainAttrs_str PySem.F.slot_str_join PySem.F.type_str_join mt_join pe_str ((ga_cons hst he ga_nil) ρ _ ks g2) hbase hfew hline hst hpl) fun σ H Q ⟨H0, F', S, qq⟩ => ⟨rfl, H0, F', S, fun vs H1 fp s1 r1 k1 => ?_⟩
        obtain ⟨v, vr, f1, f2, rfl, _, ⟨a, ws, g, rfl, _, rl, hw⟩, r2⟩ := r1
        obtain ⟨rfl, _⟩ := r2
        rw [rep_strs rl] at hw
        exact ⟨sep, a, ts, rfl, rfl, hw, hok, qq _ H1 [] s1 ⟨rfl, rfl⟩ KOk.nil0⟩
      · injection g3
    · injection g3
  · injection g3
end
section
variable {X : Cx} {cl : Nat → Addr} {M : Tab} {ρ : Env} {a e : Expr} {i : Nat} {pos p4 : Pos} {es : List Expr} {es' : List E}
def ifF (M : Tab) (c' : E) (fa fb : Env → Out) (ρ : Env) : Out := match runE M c' ρ with
  | .ok (x, _) => (match truD x with
    | .ok true => fa ρ
    | .ok false => fb ρ
    | _ => .bad)
  | _ => .bad
set_option tactic.hygienic true in
theorem gx_ifF {M : Tab} {c : Expr} {c' : E} {sa sb : List Stmt} {pos : Pos} {wa wb : List Nat} {fa fb : Env → Out} (hc : GT X cl M c c') (ha : ∀ ρ, PSs X sa (tSd cl ρ wa (fa ρ))) (hb : ∀ ρ, PSs X sb (tSd cl ρ wb (fb ρ))) : ∀ ρ, PS X (.If c sa sb pos) (tSd cl ρ (wa ++ wb) (ifF M c' fa fb ρ)) := fun ρ => by
  unfold ifF
  split
  · rename_i x k h
    split
    · rename_i ht
      have := s_if (sb := sb) (pos := pos) (ws' := wb) (ob := .bad) (hc ρ x k true h ht) (fun _ => ha ρ) fun z => nomatch z
      rw [if_pos rfl] at this
      exact this
    · rename_i ht
      have := s_if (sa := sa) (pos := pos) (ws := wa) (oa := .bad) (hc ρ x k false h ht) (fun z => nomatch z) fun _ => hb ρ
      rw [if_neg Bool.false_ne_true] at this
      exact this
    · exact s_bad
  · exact s_bad
theorem gy_seq {st : Stmt} {rst : List Stmt} {w1 ws : List Nat} {f1 f : Env → Out} (h1 : ∀ ρ, PS X st (tSd cl ρ w1 (f1 ρ))) (h2 : ∀ ρ, PSs X rst (tSd cl ρ ws (f ρ))) : ∀ ρ, PSs X (st :: rst) (tSd cl ρ (w1 ++ ws) ((f1 ρ).bind f)) := fun ρ => ss_cons (h1 ρ) fun ρ' _ => h2 ρ'
def retCat (M : Tab) (i : Nat) (es' : List E) (ρ : Env) : Out := match getV ρ i with
  | .ok (.lst l, .sto [_]) => (match runEs M es' ρ with
    | .ok (ds, .sto []) => if l.length + ds.length ≤ 1000000 then .rt (.lst (l ++ ds)) else .bad
    | _ => .bad)
  | _ => .bad
set_option tactic.hygienic true in
theorem gx_retCat (ha : GE X cl M a (.var i)) (hes : GA X cl M es es') : ∀ ρ, PS X (.Return (some (.BinOp a .Add (.List es p4) pos)) p) (tSd cl ρ [] (retCat M i es' ρ)) := fun ρ => by
  unfold retCat
  split
  · rename_i l t h
    split
    · rename_i ds h2
      split
      · rename_i hc
        have hv := ha ρ _ _ (by rw [rE_var]; exact h)
        exact s_ret (e_catO hv (hes ρ _ _ h2) hc)
      · exact s_bad
    · exact s_bad
  · exact s_bad
end
abbrev VE : List Value := [.type "ValueError", .type "Exception", .type "BaseException", .type "object"]
structure NewI (P : Program) (w : World) (K : PySem.W.Frag) (mg : Str → Option Value) (base : Heap) (x f : Str) (C : Addr) : Prop where
  ex : ∃ fi fd ps, FnOk P w K mg base CX0 1 fi fd ps (spN1 C f) ∧ excOwn K C fi VE "ValueError.__new__" = true ∧ Binds K fd ps [] ∧ mg x = some (.ref C) ∧ PySem.W.keepIn K (.ref C) = true
structure NewII (P : Program) (w : World) (K : PySem.W.Frag) (mg : Str → Option Value) (base : Heap) (x f g : Str) (C : Addr) : Prop where
  ex : ∃ fi fd ps, FnOk P w K mg base CX0 1 fi fd ps (spN2 C f g) ∧ excOwn K C fi VE "ValueError.__new__" = true ∧ Binds K fd ps [] ∧ mg x = some (.ref C) ∧ PySem.W.keepIn K (.ref C) = true
def newR (c : Nat) (f : Str) : List D → R D
  | [.lst l] => match intsD l with
    | some ns => if (∀ m ∈ ns, small m) ∧ ns.length ≤ 100 then .ok (.obj c [(f, .lst l)]) else .bad
    | none => .bad
  | _ => .bad
def spNR (C : Addr) (f : Str) : Sp := fun vs H Q _ => ∃ (a : Addr) (q : Addr) (ns : List Int), vs = [.ref a, .ref q] ∧ (∀ m ∈ ns, small m) ∧ ns.length ≤ 100 ∧ H a = some (excN a C none) ∧ Rd H q (.lst (ns.map V.int)) ∧
  ∀ H' dx l, (∀ b o, H b = some o → b ≠ a → H' b = some o) → H dx = none → H l = none → dx ≠ l → H' a = some (excN a C (some dx)) → H' dx = some (excD dx [(f, .ref l)]) → H' l = some (.lst (ns.map V.int)) → Q .non H'
structure NewR (P : Program) (w : World) (K : PySem.W.Frag) (mg : Str → Option Value) (base : Heap) (x f : Str) (C : Addr) : Prop where
  ex : ∃ fi fd ps, FnOk P w K mg base CX0 4 fi fd ps (spNR C f) ∧ excOwn K C fi VE "ValueError.__new__" = true ∧ Binds K fd ps [] ∧ mg x = some (.ref C) ∧ PySem.W.keepIn K (.ref C) = true
section
variable {X : Cx} {cl : Nat → Addr} {M : Tab} {e e2 : Expr} {e' e2' : E} {p pos p2 : Pos} {i c kk : Nat} {C : Addr} {f g x : Str}
theorem g_newIL (L : NewI X.prog X.w X.K X.mg X.base x f C) (hC : cl c = C) (hfn : M.fn i = newF c f) (hg : Gl X x) (hr : Room kk X.A) (hl : 2 ≤ kk) (hdb : (x == ("__debug__" : Str)) = false) (hst : starEach [e] X.env = (false, eval e X.env) :: starEach [] X.env) (hpl : (backTo pos (starEach [] X.env)).any (·.1) = false)
    (he : GE X cl M e e') : GE X cl M (.Call (.Name x p) [e] [] pos) (.call i [e']) := by
  obtain ⟨fi, fd, ps, F, q, hb, hm, hk⟩ := L.ex
  exact g_newI hC hfn hg hm hk (hr.mono hl) q PySem.F.excBase_ValueError (by decide +kernel) PySem.F.excBase_ValueError F hb hdb hst hpl he
theorem g_newIIL (L : NewII X.prog X.w X.K X.mg X.base x f g C) (hC : cl c = C) (hfn : M.fn i = newF2 c f g) (hg : Gl X x) (hr : Room kk X.A) (hl : 2 ≤ kk) (hdb : (x == ("__debug__" : Str)) = false) (hst : starEach [e, e2] X.env = (false, eval e X.env) :: starEach [e2] X.env) (hst2 : starEach [e2] X.env = (false, eval e2 X.env) :: starEach [] X.env) (hpl : (backTo pos (starEach [e2] X.env)).any (·.1) = false)
    (he : GE X cl M e e') (he2 : GE X cl M e2 e2') : GE X cl M (.Call (.Name x p) [e, e2] [] pos) (.call i [e', e2']) := by
  obtain ⟨fi, fd, ps, F, q, hb, hm, hk⟩ := L.ex
  exact g_newII hC hfn hg hm hk (hr.mono hl) q PySem.F.excBase_ValueError (by decide +kernel) PySem.F.excBase_ValueError F hb hdb hst hst2 hpl he he2
theorem ints_of : ∀ {l : List D} {ns : List Int}, intsD l = some ns → l = ns.map D.int := by
  intro l
  induction l with
  | nil => intro ts h; injection h with h; rw [← h]; rfl
  | cons d r ih =>
    intro ts h
    cases d with
    | int x =>
      obtain ⟨tr, e, h⟩ := Option.map_eq_some_iff.mp h
      rw [← h, ih e]; rfl
    | _ => injection h
theorem rep_ints {H : Hp} : ∀ {ns : List Int} {vs : List V} {f : List Addr}, RepL cl H (ns.map D.int) vs f → vs = ns.map V.int ∧ f = [] := by
  intro ts
  induction ts with
  | nil => intro vs f r; exact r
  | cons x ts ih =>
    intro vs f r
    obtain ⟨v, vr, f1, f2, rfl, rfl, ⟨rfl, rfl⟩, r2⟩ := r
    obtain ⟨rfl, rfl⟩ := ih r2
    exact ⟨rfl, rfl⟩
theorem repI_ints {H : Hp} : ∀ ns : List Int, RepL cl H (ns.map D.int) (ns.map V.int) [] := by
  intro ns
  induction ns with
  | nil => exact ⟨rfl, rfl⟩
  | cons x ns ih => exact ⟨.int x, _, [], [], rfl, rfl, ⟨rfl, rfl⟩, ih⟩
set_option tactic.hygienic true in
theorem g_newRL (L : NewR X.prog X.w X.K X.mg X.base x f C) (hC : cl c = C) (hfn : M.fn i = newR c f) (hg : Gl X x) (hr : Room kk X.A) (hl : 5 ≤ kk) (hdb : (x == ("__debug__" : Str)) = false) (hst : starEach [e] X.env = (false, eval e X.env) :: starEach [] X.env) (hpl : (backTo pos (starEach [] X.env)).any (·.1) = false)
    (he : GE X cl M e e') : GE X cl M (.Call (.Name x p) [e] [] pos) (.call i [e']) := fun ρ d kd h => by
  obtain ⟨fi, fd, ps, Fi, q, hb, hm, hk⟩ := L.ex
  rw [rE_call] at h
  obtain ⟨⟨xs, ks⟩, g2, h⟩ := R.bind_ok h
  obtain ⟨r, g3, h⟩ := R.bind_ok h
  obtain ⟨rfl, rfl⟩ := okp h
  rw [hfn] at g3
  unfold newR at g3
  split at g3
  · rename_i l
    split at g3
    · rename_i ns hns
      split at g3
      · rename_i hsm
        injection g3 with g3
        subst g3
        have el := ints_of hns
        subst el
        refine pe_imp (pe_newO hg hm hk (hr.mono hl) q PySem.F.excBase_ValueError (by decide +kernel) PySem.F.excBase_ValueError Fi hb ((ga_cons hst he ga_nil) ρ _ ks g2) hdb hst hpl) fun σ H Q ⟨H0, F', S, qq⟩ => ⟨H0, F', S, fun vs H1 fp s1 r1 k1 => ?_⟩
        obtain ⟨v, vr, f1, f2, rfl, _, ⟨z, ws, g, rfl, _, rl, hw⟩, r2⟩ := r1
        obtain ⟨rfl, _⟩ := r2
        obtain ⟨rfl, _⟩ := rep_ints rl
        refine ⟨by show 1 ≤ sizeLine; rw [sizeLine_eq]; decide, fun a ha => ⟨a, z, ns, rfl, hsm.1, hsm.2, upd_same, ?_, fun H' dx l' kp nd nl ne hA hD hL => ⟨rfl, ?_⟩⟩⟩
        · rcases hw with w | ⟨o, w⟩
          · exact .inl (by rw [upd_ne (ne_of_none w ha)]; exact w)
          · exact .inr ⟨o, by rw [upd_ne (ne_of_none w ha)]; exact w⟩
        have nda : dx ≠ a := fun z => by rw [z, upd_same] at nd; injection nd
        have nla : l' ≠ a := fun z => by rw [z, upd_same] at nl; injection nl
        have nd1 : H1 dx = none := by rw [upd_ne nda] at nd; exact nd
        have nl1 : H1 l' = none := by rw [upd_ne nla] at nl; exact nl
        have sm : Same H H' := fun b o e => by
          have e1 := s1 b o e
          have nb := ne_of_none e1 ha
          exact kp b o (by rw [upd_ne nb]; exact e1) nb
        have mem3 : ∀ {b : Addr} {Pp : Addr → Prop}, b ∈ [a, dx, l'] → Pp a → Pp dx → Pp l' → Pp b := fun {b Pp} hb h1 h2 h3 => by
          rcases List.mem_cons.mp hb with z | z
          · rw [z]; exact h1
          · rcases List.mem_cons.mp z with z | z
            · rw [z]; exact h2
            · rw [List.mem_singleton.mp z]; exact h3
        refine qq (.ref a) H' [a, dx, l'] sm ?_ ⟨?_, fun _ z => (nomatch z), fun b hb => ?_, fun b hb => ?_⟩
        · unfold Rep
          exact .ex a dx [l'] [(f, .ref l')] rfl rfl (by rw [hC]; exact hA) hD nda rfl ⟨.ref l', [], [l'], [], rfl, rfl, ⟨l', ns.map V.int, [], rfl, rfl, repI_ints ns, .inl hL⟩, ⟨rfl, rfl⟩⟩
        · exact List.nodup_cons.mpr ⟨fun z => by
            rcases List.mem_cons.mp z with z | z
            · exact nda z.symm
            · exact nla (List.mem_singleton.mp z).symm, List.nodup_cons.mpr ⟨fun z => ne (List.mem_singleton.mp z), by simp⟩⟩
        · exact mem3 (Pp := fun b => H b = none ∨ ∃ i ∈ ([] : List Nat), b ∈ F' i) hb (.inl (s1.free ha)) (.inl (s1.free nd1)) (.inl (s1.free nl1))
        · exact mem3 (Pp := fun b => NF H' b) hb (nf_ext hA) (nf_ext hD) fun o u z => by rw [hL] at z; (injection z with z; injection z)
      · injection g3
    · injection g3
  · injection g3
end
end Vi
namespace Hd
open PySem PySem.W PySem.Spec PyProof.Rows L2
open PySem (Str)
def lst (o : Obj) : Bool := match o.cls with | .type t => t == "list" | _ => false
def frag (h : Heap) : Frag := h.objs.toList.zipIdx.filterMap fun x => match alive x.1 with
  | some o => if lst o then none else some (x.2, o)
  | none => none
theorem mem_of_lookup {a : Addr} {o : Obj} {K : Frag} : K.lookup a = some o → (a, o) ∈ K := by
  induction K with
  | nil => intro h; injection h
  | cons p r ih =>
    obtain ⟨b, x⟩ := p
    intro h
    rw [List.lookup_cons] at h
    split at h
    · rename_i e
      injection h with h
      rw [h, beq_iff_eq.mp e]
      exact List.mem_cons_self
    · exact List.mem_cons_of_mem _ (ih h)
theorem frag_mem {h : Heap} {a : Addr} {o : Obj} (m : (a, o) ∈ frag h) : h.get? a = some o ∧ lst o = false := by
  obtain ⟨⟨x, b⟩, m', e⟩ := List.mem_filterMap.mp m
  have mm : h.objs.toList[b]? = some x := List.mk_mem_zipIdx_iff_getElem?.mp m'
  cases g : alive x with
  | none => rw [g] at e; injection e
  | some y =>
    rw [g] at e
    cases l : lst y with
    | true => simp only [l] at e; injection e
    | false =>
      simp only [l] at e
      injection e with e
      injection e with e1 e2
      subst e1 e2
      refine ⟨?_, l⟩
      unfold Heap.get?
      rw [show h.objs[b]? = some x from (Array.getElem?_toList ..).symm.trans mm, ← g]
      obtain ⟨c, d, dt, sl⟩ := x
      cases dt <;> rfl
theorem frag_in (h : Heap) : (frag h).In h := fun _ _ e => (frag_mem (mem_of_lookup e)).1
def NoLst (K : Frag) : Prop := ∀ a o, K.lookup a = some o → o.cls ≠ .type "list"
theorem frag_nolst (h : Heap) : NoLst (frag h) := fun a o e z => by
  have := (frag_mem (mem_of_lookup e)).2
  unfold lst at this
  rw [z] at this
  exact absurd this (by decide)
def isNN : Option (Option Value) → Bool
  | some none => true
  | _ => false
theorem isNN_of {x : Option (Option Value)} (h : isNN x = true) : x = some none := by
  match x, h with
  | some none, _ => rfl
def adr : Option (Option Value) → Option Addr
  | some (some (.ref a)) => some a
  | _ => none
theorem adr_of {x : Option (Option Value)} {a : Addr} (h : adr x = some a) : x = some (some (.ref a)) := by
  match x, h with
  | some (some (.ref b)), h => injection h with h; rw [h]
def fdAt (K : Frag) (f : Addr) : Option FuncData := match K.lookup f with
  | some ⟨_, _, .func fd, _⟩ => some fd
  | _ => none
theorem fdAt_of {K : Frag} {f : Addr} {fd : FuncData} (h : fdAt K f = some fd) : ∃ oc od sl, K.lookup f = some ⟨oc, od, .func fd, sl⟩ := by
  unfold fdAt at h
  split at h
  · rename_i e
    injection h with h
    exact ⟨_, _, _, h ▸ e⟩
  · injection h
def norm (fd : FuncData) : FuncData := { fd with kwdefaults := .none, doc := .none, pyModule := .none, annotations := none, code := .none, closureTuple := .none }
structure Ent where
  c : Option Str
  x : Str
  q : Str
  st : Stmt
def Ent.exp (e : Ent) : FuncData := fnOf e.x e.q (defArgs e.st) (defBody e.st) (defScope e.st) .none .none .none .none none .none .none
def clsAt (K : Frag) (c : Str) : Addr := (adr (nsIn K mainGlobals c)).getD 0
def Ent.v (K : Frag) (e : Ent) : Option (Option Value) := match e.c with
  | none => nsIn K mainGlobals e.x
  | some c => findIn K (.ref (clsAt K c)) e.x
def Ent.look (K : Frag) (e : Ent) : Option FuncData := (adr (e.v K)).bind fun f => (fdAt K f).bind fun fd => if codeIn K fd.code e.q && keepIn K (.ref f) && isFn K (.ref f) then some (norm fd) else none
inductive FIn (K : Frag) (v : Option (Option Value)) (x q : Str) (st : Stmt) : Prop
  | mk (f : Addr) (fd : FuncData) (a : v = some (some (.ref f))) (F : Fun K x q st f fd) (i : isFn K (.ref f) = true)
theorem Ent.fin {K : Frag} {e : Ent} (h : e.look K = some e.exp) : FIn K (e.v K) e.x e.q e.st := by
  obtain ⟨f, a, h⟩ := Option.bind_eq_some_iff.mp h
  obtain ⟨fd, l, h⟩ := Option.bind_eq_some_iff.mp h
  cases z : (codeIn K fd.code e.q && keepIn K (.ref f) && isFn K (.ref f)) with
  | false => rw [z] at h; exact absurd h (by simp)
  | true =>
    rw [z] at h
    obtain ⟨z, i⟩ := Bool.and_eq_true_iff.mp z
    obtain ⟨cI, kI⟩ := Bool.and_eq_true_iff.mp z
    obtain ⟨oc, od, sl, l⟩ := fdAt_of l
    have h : norm fd = e.exp := Option.some.inj h
    refine ⟨f, fd, adr_of a, ⟨⟨oc, od, fd.kwdefaults, fd.doc, fd.pyModule, fd.annotations, fd.code, fd.closureTuple, sl, ?_, l, cI⟩, kI⟩, i⟩
    cases fd
    unfold norm Ent.exp fnOf at h
    injection h with h1 h2 h3 h4 h5 h6 h7 h8 h9 h10 h11 h12 h13 h14 h15
    subst h1 h2 h3 h4 h5 h6 h7 h8 h15
    rfl
structure ClsOk (K : Frag) (C : Addr) : Prop where
  pg : plainGet K C Str.empty = true
  hd : hasDictIn K C = true
  po : plainOver K C = true
  sa : findIn K (.ref C) "__setattr__" = some (some (.builtin "object.__setattr__"))
  mi : makesIn K C = true
  kc : keepIn K (.ref C) = true
def isSA : Option (Option Value) → Bool
  | some (some (.builtin n)) => n == "object.__setattr__"
  | _ => false
theorem isSA_of {x : Option (Option Value)} (h : isSA x = true) : x = some (some (.builtin "object.__setattr__")) := by
  match x, h with
  | some (some (.builtin n)), h => rw [show n = "object.__setattr__" from beq_iff_eq.mp h]
def clsB (K : Frag) (C : Addr) : Bool := plainGet K C Str.empty && hasDictIn K C && plainOver K C && isSA (findIn K (.ref C) "__setattr__") && makesIn K C && keepIn K (.ref C)
theorem clsB_of {K : Frag} {C : Addr} (h : clsB K C = true) : ClsOk K C := by
  unfold clsB at h
  simp only [Bool.and_eq_true] at h
  obtain ⟨⟨⟨⟨⟨h1, h2⟩, h3⟩, h4⟩, h5⟩, h6⟩ := h
  exact ⟨h1, h2, h3, isSA_of h4, h5, h6⟩
structure Ask where
  ents : List Ent
  clss : List (Str × List Str)
  outs : List Str
  nums : List (Str × Int)
def isI (n : Int) : Option (Option Value) → Bool
  | some (some (.int m _)) => m == n
  | _ => false
theorem isI_of {n : Int} {x : Option (Option Value)} (h : isI n x = true) : ∃ t, x = some (some (.int n t)) := by
  match x, h with
  | some (some (.int m t)), h => rw [show m = n from beq_iff_eq.mp h]; exact ⟨t, rfl⟩
def clsOne (K : Frag) (c : Str × List Str) : Bool := match adr (nsIn K mainGlobals c.1) with
  | some C => clsB K C && c.2.all fun n => isNN (findIn K (.ref C) n)
  | none => false
def Ask.flags (A : Ask) (K : Frag) : Bool := A.clss.all (clsOne K) && A.outs.all (fun n => isNN (nsIn K mainGlobals n)) && A.nums.all fun x => isI x.2 (nsIn K mainGlobals x.1)
structure Ask.Good (A : Ask) (K : Frag) : Prop where
  nl : NoLst K
  fl : A.flags K = true
  fs : A.ents.map (·.look K) = A.ents.map fun e => some e.exp
def Ask.hook (A : Ask) : Hook where
  α := Bool × List (Option FuncData)
  obs s := (A.flags (frag s.heap), A.ents.map (·.look (frag s.heap)))
  val _ := (true, A.ents.map fun e => some e.exp)
  says _ h := ∃ K : Frag, K.In h ∧ A.Good K
  of _ s h := ⟨frag s.heap, frag_in _, frag_nolst _, congrArg Prod.fst h, congrArg Prod.snd h⟩
  keeps _ _ _ := fun ⟨K, i, g⟩ k => ⟨K, i.keeps k, g⟩
theorem map_at {α β : Type} {f g : α → β} : ∀ {l : List α} (i : Nat) {e : α}, l.map f = l.map g → l[i]? = some e → f e = g e
  | [], _, _, _, h => by injection h
  | a :: l, 0, e, h, q => by
    injection q with q
    subst q
    exact (List.cons.inj h).1
  | a :: l, i + 1, e, h, q => map_at i (List.cons.inj h).2 q
section
variable {A : Ask} {K : Frag}
theorem Ask.Good.fn (G : A.Good K) (i : Nat) {e : Ent} (h : A.ents[i]? = some e) : FIn K (e.v K) e.x e.q e.st := Ent.fin (map_at i G.fs h)
theorem Ask.Good.parts (G : A.Good K) : A.clss.all (clsOne K) = true ∧ A.outs.all (fun n => isNN (nsIn K mainGlobals n)) = true ∧ A.nums.all (fun x => isI x.2 (nsIn K mainGlobals x.1)) = true := by
  have h := G.fl
  unfold Ask.flags at h
  simp only [Bool.and_eq_true] at h
  exact ⟨h.1.1, h.1.2, h.2⟩
theorem Ask.Good.out (G : A.Good K) (i : Nat) {n : Str} (h : A.outs[i]? = some n) : nsIn K mainGlobals n = some none := isNN_of (List.all_eq_true.mp G.parts.2.1 n (List.mem_of_getElem? h))
theorem Ask.Good.int (G : A.Good K) (i : Nat) {n : Str} {k : Int} (h : A.nums[i]? = some (n, k)) : ∃ t, nsIn K mainGlobals n = some (some (.int k t)) := isI_of (List.all_eq_true.mp G.parts.2.2 (n, k) (List.mem_of_getElem? h))
theorem Ask.Good.cls (G : A.Good K) (i : Nat) {c : Str} {fs : List Str} (h : A.clss[i]? = some (c, fs)) : nsIn K mainGlobals c = some (some (.ref (clsAt K c))) ∧ ClsOk K (clsAt K c) ∧ ∀ n ∈ fs, findIn K (.ref (clsAt K c)) n = some none := by
  have h := List.all_eq_true.mp G.parts.1 (c, fs) (List.mem_of_getElem? h)
  unfold clsOne at h
  unfold clsAt
  cases e : adr (nsIn K mainGlobals c) with
  | none => simp only [e] at h; injection h
  | some C =>
    simp only [e] at h
    obtain ⟨h1, h2⟩ := Bool.and_eq_true_iff.mp h
    exact ⟨adr_of e, clsB_of h1, fun n m => isNN_of (List.all_eq_true.mp h2 n m)⟩
end
def spL (K : Frag) : Sp := fun vs H Q _ => ∃ (a : Addr) (ns : List Int), vs = [.ref a] ∧ SqL K H a (ns.map V.int) ∧ ns.length ≤ 63 ∧ ∀ H', Q (.bl true) H'
open Vi in
theorem law_sp {K : Frag} {cl : Nat → Addr} {r : List D → R D} (hK : NoLst K) (lt : ∀ ns : List Int, ns.length ≤ 63 → r [.lst (ns.map D.int)] = .ok (.bl true)) : ∀ vs H Q E, spL K vs H Q E → spP cl r vs H Q E := by
  rintro vs H Q E ⟨a, ns, rfl, hS, hl, q⟩
  refine ⟨[.lst (ns.map D.int)], [a], .bl true, ?_, lt ns hl, fun v H' fp' _ r _ _ => ?_⟩
  · have h0 : H a = some (.lst (ns.map V.int)) ∨ ∃ o, H a = some (.frz o (.lst (ns.map V.int))) := by
      rcases hS with h | ⟨o, its, n, h, hc, _⟩
      · exact h
      · exact absurd hc (hK _ _ h)
    unfold RepL
    refine ⟨.ref a, [], [a], [], rfl, rfl, ?_, ⟨rfl, rfl⟩⟩
    unfold Rep
    exact ⟨a, ns.map V.int, [], rfl, rfl, repL_ints ns, h0⟩
  · rw [r.1]
    exact q H'
theorem usS {us : List Value} {n : Nat} (h : us.length = n + 1) : ∃ x r, us = x :: r ∧ r.length = n := by
  cases us with
  | nil => injection h
  | cons x r => exact ⟨x, r, rfl, Nat.succ.inj h⟩
theorem us1 {us : List Value} (h : us.length = 1) : ∃ x0, us = [x0] := by
  obtain ⟨x, r, rfl, g⟩ := usS h
  exact ⟨x, by rw [List.eq_nil_of_length_eq_zero g]⟩
theorem us2 {us : List Value} (h : us.length = 2) : ∃ x0 x1, us = [x0, x1] := by
  obtain ⟨x0, r, rfl, g⟩ := usS h
  obtain ⟨x1, rfl⟩ := us1 g
  exact ⟨x0, x1, rfl⟩
theorem us3 {us : List Value} (h : us.length = 3) : ∃ x0 x1 x2, us = [x0, x1, x2] := by
  obtain ⟨x0, r, rfl, g⟩ := usS h
  obtain ⟨x1, x2, rfl⟩ := us2 g
  exact ⟨x0, x1, x2, rfl⟩
theorem us4 {us : List Value} (h : us.length = 4) : ∃ x0 x1 x2 x3, us = [x0, x1, x2, x3] := by
  obtain ⟨x0, r, rfl, g⟩ := usS h
  obtain ⟨x1, x2, x3, rfl⟩ := us3 g
  exact ⟨x0, x1, x2, x3, rfl⟩
def dn : Code → Sem Fin := Fast.tw11892475500146522536 Fast.tw14364793385576792824
theorem dn_eq : denote treeTable = dn := by unfold dn; rw [← Fast.te11892475500146522536, ← Fast.te14364793385576792824]
def topRunT (p : Program) (w : World) (n₀ : Nat) (ann : Option Value) : Nat → SharedT → Thread → Option SharedT
  | 0, _, _ => none
  | n + 1, s, t => match through t with
    | true => some s
    | false => match Fast.tw6613529449190102663 n₀ ann t with
      | false => none
      | true => match Fast.tw10156331382660048174 dn p w s t with
        | some (s', t') => topRunT p w n₀ ann n s' t'
        | none => none
theorem topRunT_of {p : Program} {w : World} {n₀ : Nat} {ann : Option Value} : ∀ {n : Nat} {s s' : SharedT} {t : Thread}, topRunT p w n₀ ann n s t = some s' → topRun treeTable p w n₀ ann n s.abs t = some s'.abs
  | 0, _, _, _, h => by cases h
  | n + 1, s, s', t, h => by
    unfold topRunT at h
    rw [← Fast.te6613529449190102663, ← Fast.te10156331382660048174, ← dn_eq] at h
    unfold topRun
    cases he : through t with
    | true => rw [he] at h; cases h; rfl
    | false =>
      rw [he] at h
      cases hk : stepOk n₀ ann t with
      | false => rw [hk] at h; cases h
      | true =>
        rw [hk] at h
        cases hs : stepT (denote treeTable) p w s t with
        | none => rw [hs] at h; cases h
        | some r => obtain ⟨s₂, t₂⟩ := r; rw [hs] at h; rw [stepT_spec hs]; exact topRunT_of h
def bootT (P : Params) : BT := ((boot_heap P).objs.toList.foldl (fun (x : BT × Nat) o => (x.1.ins x.2 o, x.2 + 1)) (.nil, 0)).1
def boot (w : World) (os : OsState) : SharedT := ⟨bootT w.params, 11, {}, ⟨[]⟩, boot_drawn, boot_toks, os⟩
theorem boot_abs (w : World) (os : OsState) : (boot w os).abs = ⟨boot_heap w.params, ⟨[]⟩, boot_drawn, boot_toks, os⟩ := by kernel_rfl
theorem boot_size (P : Params) : ((boot_heap P).isNs mainGlobals && (Array.mk [] : Array GenState).size == 0, (boot_heap P).objs.size, (boot_heap P).nsMap mainGlobals "__annotations__") = (true, 11, some (.ref 6)) := by kernel_rfl
theorem left_of {p q : Program} {loose : List Str} {Xt : Shared → Bool} {α : Type} {Yf : Shared → α} {Ya : World → α} {N : Nat} (e : opening p = plainProg p.main.scope.names) (f : ∀ s, fenceModules? p s = some s) (hN : Nat.ble 600 N = true)
    (run : ∀ (w : World) (os : OsState), (topRunT p w 11 (some (.ref 6)) N (boot w os) (topStub p)).map (fun s => (staticsOk (importedModules p.main.body) (boot_heap w.params) s.abs.heap && namesBound p s.abs.heap && gensDone s.abs && laidKept (boot_heap w.params) s.abs.heap, Fast.tw4187177175401517315 q loose (importedModules p.main.body) Xt true s.abs, Yf s.abs)) = some (true, openGood q loose, Ya w)) : LeftO p q loose Xt Yf Ya N true := fun w => by
  obtain ⟨⟨h, gs, d, k, os⟩, e, e'⟩ := Option.map_eq_some_iff.mp (boot_open e hN f w)
  obtain ⟨rfl, rfl, rfl, rfl⟩ : h = boot_heap w.params ∧ gs = ⟨[]⟩ ∧ d = boot_drawn ∧ k = boot_toks := by simpa using e'
  obtain ⟨z1, z2, z3⟩ : _ ∧ _ ∧ _ := by simpa only [Prod.mk.injEq] using boot_size w.params
  have run := run w os
  rw [← Fast.te4187177175401517315] at run
  obtain ⟨s, r, l⟩ := Option.map_eq_some_iff.mp run
  obtain ⟨l1, l2⟩ := Prod.mk.inj l
  have r := topRunT_of r
  rw [boot_abs] at r
  have t : topFrom treeTable p w N ⟨boot_heap w.params, ⟨[]⟩, boot_drawn, boot_toks, os⟩ = some s.abs := by
    unfold topFrom
    dsimp only
    rw [z1, z2, z3, r]
    show (match staticsOk (importedModules p.main.body) (boot_heap w.params) s.abs.heap && namesBound p s.abs.heap && gensDone s.abs && laidKept (boot_heap w.params) s.abs.heap with | true => _ | false => _) = _
    rw [l1]
  unfold openEnds
  rw [e]
  show (topFrom treeTable p w N _).map _ = _
  rw [t]
  exact congrArg some l2
end Hd
namespace K12
open Vi
open PySem (Str)
def nofn : Nat → List D → R D := fun _ _ => .bad
abbrev O := Option (D × Bool)
theorem ss_step {M : Tab} {s : S} {r : List S} {ρ ρ' : Env} (h : runS M s ρ = .nx ρ') : runSs M (s :: r) ρ = runSs M r ρ' := by simp [rSs_0, rSs_1, h, Out.bind]
theorem fn_rt {f : Fn} {M : Tab} {ds : List D} {d : D} (h1 : ds.length = f.par) (h2 : f.par ≤ f.slots) (h : runSs M f.body (ds.map (fun d => some (d, false)) ++ List.replicate (f.slots - f.par) none) = .rt d) : f.run M ds = .ok d := by
  unfold Fn.run
  rw [if_pos ⟨h1, h2⟩, h]
theorem run_comp {M : Tab} {e c : E} {tg : List Nat} {one : Bool} {ik : Itk} {it : List E} {ρ : Env} {xs ys : List D} {k : Kd} {b : Bool} (h : runI M ik it ρ = .ok (xs, k)) (hl : xs.length ≤ 1000000)
    (hc : compL (turnC ρ tg one (fun ρ1 => tru1 (runE M c ρ1)) (fun ρ1 => runE M e ρ1)) xs = .ok (ys, b)) : runE M (.comp e tg one ik it c) ρ = .ok (.lst ys, if b = true then .sto [] else .bor) := by
  rw [rE_comp, h]
  simp only [R.ok_bind]
  rw [if_neg (by exact Nat.not_lt.mpr ‹_›), hc]
  rfl
theorem run_bin {M : Tab} {o : Op} {a b : E} {ρ : Env} {x y z : D} {k k' : Kd} (h1 : runE M a ρ = .ok (x, k)) (h2 : runE M b ρ = .ok (y, k')) (h3 : opD o x y = .ok z) : runE M (.bin o a b) ρ = .ok (z, kdOf z) := by
  simp only [rE_bin, h1, h2, R.pure_eq, R.ok_bind, h3]
theorem run_set {M : Tab} {i : Nat} {e : E} {ρ ρ' : Env} {d : D} {k : Kd} (h1 : runE M e ρ = .ok (d, k)) (h2 : setSlot ρ i d k = some ρ') : runS M (.set i e) ρ = .nx ρ' := by
  simp only [rS_set, ofR, h1, ofO, h2]
theorem run_bi1 {M : Tab} {b : Bi} {a : E} {ρ : Env} {x z : D} {k : Kd} (h1 : runE M a ρ = .ok (x, k)) (h3 : biD b [x] = .ok z) : runE M (.bi b [a]) ρ = .ok (z, kdOf z) := by
  simp only [rE_bi, rEs_1, h1, rEs_0, R.pure_eq, R.ok_bind, h3]
theorem run_if {M : Tab} {c : E} {a b : List S} {ρ : Env} {x : D} {k : Kd} {t : Bool} (h1 : runE M c ρ = .ok (x, k)) (h2 : truD x = .ok t) : runS M (.ifs c a b) ρ = if t = true then runSs M a ρ else runSs M b ρ := by
  simp only [rS_ifs, ofR, h1, h2]
theorem run_call {M : Tab} {f : Nat} {as : List E} {ρ : Env} {ds : List D} {k : Kd} {d : D} (h : runEs M as ρ = .ok (ds, k)) (h2 : M.fn f ds = .ok d) : runE M (.call f as) ρ = .ok (d, .sto []) := by
  rw [rE_call, h]
  simp only [R.ok_bind, h2, R.pure_eq]
theorem run_cmp {M : Tab} {o : Cp} {a b : E} {ρ : Env} {x y : D} {k k' : Kd} {t : Bool} (h1 : runE M a ρ = .ok (x, k)) (h2 : runE M b ρ = .ok (y, k')) (h3 : cmpD o x y = .ok t) : runE M (.cmp o a b) ρ = .ok (.bl t, .sto []) := by
  rw [rE_cmp, h1]
  simp only [R.ok_bind, h2, h3, R.pure_eq]
theorem run_es1 {M : Tab} {a : E} {r : List E} {ρ : Env} {x : D} {xs : List D} {k k' : Kd} (h1 : runE M a ρ = .ok (x, k)) (h2 : runEs M r ρ = .ok (xs, k')) : runEs M (a :: r) ρ = .ok (x :: xs, combK k k') := by
  rw [rEs_1, h1]
  simp only [R.ok_bind, h2, R.pure_eq]
theorem run_app {M : Tab} {i : Nat} {e : E} {ρ : Env} {l : List D} {d : D} (h : runE M e ρ = .ok (d, .sto [])) (hl : ρ[i]? = some (some (.lst l, true))) (hc : l.length < 1000000) : runS M (.app i e) ρ = .nx (ρ.set i (some (.lst (l ++ [d]), true))) := by
  rw [rS_app, h, hl]
  simp only [ofR, ownL_1]
  rw [if_pos ⟨hc, List.not_mem_nil⟩]
  rfl
theorem run_or_f {M : Tab} {a b : E} {ρ : Env} {k : Kd} (h : runE M a ρ = .ok (.bl false, k)) : runE M (.or a b) ρ = runE M b ρ := by
  rw [rE_or, h]; rfl
theorem run_and_t {M : Tab} {a b : E} {ρ : Env} {k : Kd} (h : runE M a ρ = .ok (.bl true, k)) : runE M (.and a b) ρ = runE M b ρ := by
  rw [rE_and, h]; rfl
theorem run_ift {M : Tab} {c : E} {a b : List S} {ρ : Env} {k : Kd} (h : runE M c ρ = .ok (.bl true, k)) : runS M (.ifs c a b) ρ = runSs M a ρ := by
  rw [run_if h rfl, if_pos rfl]
theorem run_iff {M : Tab} {c : E} {a b : List S} {ρ : Env} {k : Kd} (h : runE M c ρ = .ok (.bl false, k)) : runS M (.ifs c a b) ρ = runSs M b ρ := by
  rw [run_if h rfl, if_neg Bool.false_ne_true]
theorem ss_nil0 {M : Tab} {ρ : Env} : runSs M [] ρ = .nx ρ := by rw [rSs_0]
theorem ss_one {M : Tab} {s : S} {ρ ρ' : Env} (h : runS M s ρ = .nx ρ') : runSs M [s] ρ = .nx ρ' := (ss_step h).trans ss_nil0
theorem ss_rt {M : Tab} {e : E} {ρ : Env} {d : D} {is : List Nat} (h : runE M e ρ = .ok (d, .sto is)) : runSs M [.ret e] ρ = .rt d := by
  rw [rSs_1, rS_ret, h]
  rfl
theorem run_es0 {M : Tab} {ρ : Env} : runEs M [] ρ = .ok ([], .sto []) := by rw [rEs_0]
theorem run_not {M : Tab} {a : E} {ρ : Env} {t : Bool} {k : Kd} (h : runE M a ρ = .ok (.bl t, k)) : runE M (.not a) ρ = .ok (.bl (!t), .sto []) := by
  rw [rE_not, h]
  rfl
theorem ss_stop {M : Tab} {s : S} {r : List S} {ρ : Env} {d : D} (h : runS M s ρ = .rt d) : runSs M (s :: r) ρ = .rt d := by
  rw [rSs_1, h]
  rfl
theorem turnC_t {ρ ρ1 : Env} {tg : List Nat} {one : Bool} {c : Env → R Bool} {e : Env → R (D × Kd)} {d : D} {y : D × Kd} (hb : bindTg (inComp ρ tg) tg one d .old = some ρ1) (hc : c ρ1 = .ok true) (he : e ρ1 = .ok y) : turnC ρ tg one c e d = .ok (some y) := by
  unfold turnC
  rw [hb]
  simp only [hc, he]
theorem kd_il {l : List D} (h : immL l = true) : kdOf (.lst l) = .sto [] := if_pos (show (D.lst l).flat = true from h)
theorem run_each {M : Tab} {a : E} {ρ : Env} {x : D} {k : Kd} {xs : List D} (h : runE M a ρ = .ok (x, k)) (hx : itemsD .each [x] = some xs) : runI M .each [a] ρ = .ok (xs, k) := by
  rw [rI_1, h]
  simp only [R.ok_bind, run_es0, hx, R.pure_eq]
theorem run_lst {M : Tab} {as : List E} {ρ : Env} {ds : List D} {k : Kd} (h : runEs M as ρ = .ok (ds, k)) (hl : ds.length ≤ 1000000) : runE M (.lst as) ρ = .ok (.lst ds, dispK k) := by
  rw [rE_lst, h]
  simp only [R.ok_bind, if_pos hl, R.pure_eq]
theorem imm_il : ∀ ns : List Int, immL (ns.map D.int) = true := by
  intro x_0
  induction x_0 with
  | nil =>
    exact rfl
  | cons n r ih_ =>
    show (true && immL (r.map D.int)) = true; rw [ih_]; rfl
theorem compL_all {α : Type} {f : D → R (Option (D × Kd))} (g h : α → D) : ∀ (xs : List α), (∀ x ∈ xs, f (g x) = .ok (some (h x, .sto []))) → compL f (xs.map g) = .ok (xs.map h, true) := by
  intro x_0
  induction x_0 with
  | nil =>
    intro _
    exact rfl
  | cons x r ih_ =>
    intro H
    rw [List.map_cons, List.map_cons]
    simp only [compL, H x List.mem_cons_self, ih_ (fun y hy => H y (List.mem_cons_of_mem _ hy))]
theorem eqLs_il {n : Nat} : ∀ a b : List Int, eqLs (eqN (n + 1)) (a.map D.int) (b.map D.int) = some (decide (a = b)) := by
  intro x_0
  induction x_0 with
  | nil =>
    intro x_1
    cases x_1 with
    | nil =>
      exact rfl
    | cons _ _ =>
      exact rfl
  | cons x a ih_ =>
    intro x_1
    cases x_1 with
    | nil =>
      exact rfl
    | cons y b =>
      rw [List.map_cons, List.map_cons]
      simp only [eqLs, eqN_1, eqN_2, eqN_3, eqN_4, eqN_5, eqN_6, eqN_7, eqN_8, eqN_9, eqN_10, eqN_11, eqN_12, eqN_13, eqN_14, eqN_15, eqN_16, ih_ b]
      by_cases h : x = y <;> by_cases h' : a = b <;> simp [h, h']
theorem eqD_il (a b : List Int) : eqD (.lst (a.map D.int)) (.lst (b.map D.int)) = some (decide (a = b)) := eqLs_il (n := 6) a b
section
variable {marks : List (Int × Int)} {rows : List (Int × List Int)} {shuts : List Int} {sz : Int → Int}
end
end K12
namespace K21
open Vi K12
open PySem (Str)
theorem cut_map (l : List Int) (lo hi : Option Int) : cutD (l.map D.int) lo hi = (cutD l lo hi).map D.int := by
  unfold cutD
  rw [List.length_map, ← List.map_drop, ← List.map_take]
theorem slD_map (l : List Int) (lo hi : Option Int) : slD (.lst (l.map D.int)) (some lo) (some hi) = .ok (.lst ((cutD l lo hi).map D.int), .sto []) := by
  rw [slD_1, if_pos (imm_il _), cut_map]
theorem run_sl {M : Tab} {a lo hi : E} {ρ : Env} {l : List Int} {x y : D} {p q : Option Int} {k k1 k2 : Kd} (h1 : runE M a ρ = .ok (.lst (l.map D.int), k)) (h2 : runE M lo ρ = .ok (x, k1)) (h3 : runE M hi ρ = .ok (y, k2)) (e1 : optI lo x = some p) (e2 : optI hi y = some q) : runE M (.sl a lo hi) ρ = .ok (.lst ((cutD l p q).map D.int), .sto []) := by
  rw [rE_sl, h1]
  simp only [R.ok_bind, h2, h3, e1, e2, slD_map]
theorem run_list {M : Tab} {a : E} {ρ : Env} {l : List Int} {k : Kd} (h : runE M a ρ = .ok (.lst (l.map D.int), k)) : runE M (.bi .list [a]) ρ = .ok (.lst (l.map D.int), .sto []) := by
  rw [run_bi1 h (z := .lst (l.map D.int)) (by rw [biD_7, if_pos (imm_il _)]), kd_il (imm_il _)]
theorem run_cat {M : Tab} {a b : E} {ρ : Env} {l r : List Int} {k k' : Kd} (h1 : runE M a ρ = .ok (.lst (l.map D.int), k)) (h2 : runE M b ρ = .ok (.lst (r.map D.int), k')) (hc : l.length + r.length ≤ 1000000) : runE M (.bin .add a b) ρ = .ok (.lst ((l ++ r).map D.int), .sto []) := by
  rw [run_bin h1 h2 (z := .lst ((l ++ r).map D.int)) (by rw [opD_7, if_pos (by rw [List.length_map, List.length_map]; exact hc), List.map_append]), kd_il (imm_il _)]
theorem run_neI {M : Tab} {a b : E} {ρ : Env} {l : List Int} {k k' : Kd} (h1 : runE M a ρ = .ok (.lst (l.map D.int), k)) (h2 : runE M b ρ = .ok (.lst (l.map D.int), k')) : runE M (.cmp .ne a b) ρ = .ok (.bl false, .sto []) := run_cmp h1 h2 (by rw [cmpD_2, eqD_il, decide_eq_true rfl]; rfl)
theorem ix_nat {l : List D} {j : Nat} {d : D} (h : l[j]? = some d) : ixD (.lst l) (.int (j : Int)) = .ok d := by
  have hj := (List.getElem?_eq_some_iff.mp h).1
  simp only [ixD, atD]
  rw [if_pos (by exact Int.natCast_nonneg _), if_pos (by exact Int.ofNat_lt.mpr ‹_›)]
  simp only [Int.toNat_natCast, h]
theorem run_ixI {M : Tab} {a i : E} {ρ : Env} {l : List Int} {j : Nat} {v : Int} {k k' : Kd} (h1 : runE M a ρ = .ok (.lst (l.map D.int), k)) (h2 : runE M i ρ = .ok (.int (j : Int), k')) (h3 : l[j]? = some v) : runE M (.ix a i) ρ = .ok (.int v, .sto []) := by
  rw [rE_ix, h1]
  simp only [R.ok_bind, h2, ix_nat (l := l.map D.int) (d := .int v) (by rw [List.getElem?_map, h3]; rfl), R.pure_eq]
  cases k <;> rfl
theorem cut_len (l : List Int) (a b : Nat) : (cutD l (some (a : Int)) (some (b : Int))).length ≤ b - a := by
  show ((l.drop (if (a : Int) < 0 then ((a : Int) + l.length).toNat else min (a : Int).toNat l.length)).take ((if (b : Int) < 0 then ((b : Int) + l.length).toNat else min (b : Int).toNat l.length) - (if (a : Int) < 0 then ((a : Int) + l.length).toNat else min (a : Int).toNat l.length))).length ≤ _
  rw [if_neg (by exact Int.not_lt.mpr (Int.natCast_nonneg _)), if_neg (by exact Int.not_lt.mpr (Int.natCast_nonneg _)), Int.toNat_natCast, Int.toNat_natCast, List.length_take]
  refine Nat.le_trans (Nat.min_le_left _ _) ?_
  rcases Nat.le_total a l.length with h | h
  · rw [Nat.min_eq_left h]; exact Nat.sub_le_sub_right (Nat.min_le_left _ _) _
  · rw [Nat.min_eq_right h, Nat.sub_eq_zero_of_le (Nat.min_le_right _ _)]; exact Nat.zero_le _
end K21
namespace K19
open PySem PySem.Spec PyProof.Rows L2 Vi
open PySem (Str)
def top (i : Nat) : Stmt := PySem.Challenge.pw_signforms_k19_refusals_made.main.body.getD i (.Pass ⟨0, 0, 0, 0⟩)
theorem pvl {X : Cx} {x : Str} {pos : Pos} (i : Nat) (hN : X.N[i]? = some x := by exact rfl) (hv : X.env.scope.names.lookup x = some .local := by exact rfl) (hd : (x == ("__debug__" : Str)) = false := by exact rfl) (hc : (x == ("__classdict__" : Str)) = false := by exact rfl) : PE X (.Name x pos) (tVar i) := pe_var hN (.inl hv) hd hc
section
variable {P : Program} {w : World} {K : PySem.W.Frag} {mg : Str → Option Value} {base : Heap} {C G f : Addr} {fd : FuncData}
abbrev st_NoRow_init : Stmt := inClass (top 2) 0
theorem sc_NoRow : FnScope ["self", "at"] ["self", "at"] (defScope st_NoRow_init) := ⟨rfl, rfl, rfl, by decide +kernel, rfl, by decide +kernel, by decide +kernel⟩
theorem ok_NoRow (Fu : Fun K "__init__" "NoRow.__init__" st_NoRow_init f fd) (q : excOwn K C f VE "ValueError.__new__" = true) (hb : baseIn K G "ValueError.__init__" = true) (hm : mg "FormError" = some (.ref G)) (hx : xsetIn K C "at" = true) : FnOk P w K mg base CX0 1 f fd ["self", "at"] (spN1 C "at") := by
  refine Fun.ok (k := 0) Fu sc_NoRow (fun vs H Q E ⟨_, _, e, _⟩ => by rw [e]; rfl) fun cdv A outer s H vs Q E hr ⟨a, m, e, hm2, hH, hQ⟩ => ?_
  subst e
  refine ⟨_, (show PSs (cxOf CX0 P w K mg base ["self", "at"] "NoRow.__init__" (defScope st_NoRow_init) f cdv A outer s H E).nox (defBody st_NoRow_init) _ from
    pss_cons (ps_expr (pe_base PySem.F.excBase_ValueError q hb rfl hm (pa_cons (pvl 0) (pa_cons (pe_words (pj_str (pj_int (i := 1) rfl (.inl rfl) (pj_str pj_nil))) (by rw [sizeLine_eq]; decide)) pa_nil))))
    (pss_cons (ps_xf1 hx (pvl 0) (pvl 1) rfl) pss_nil)), ?_⟩
  refine ⟨.ref a, rfl, ⟨⟨m, rfl, hm2⟩, trivial⟩, fun x => ⟨a, .str x, none, rfl, hH, ?_⟩⟩
  exact ⟨.int m, rfl, .ref a, rfl, a, rfl, hH, fun dx hdx => hQ dx hdx⟩
abbrev st_Twice_init : Stmt := inClass (top 3) 0
theorem sc_Twice : FnScope ["self", "sign"] ["self", "sign"] (defScope st_Twice_init) := ⟨rfl, rfl, rfl, by decide +kernel, rfl, by decide +kernel, by decide +kernel⟩
theorem ok_Twice (Fu : Fun K "__init__" "Twice.__init__" st_Twice_init f fd) (q : excOwn K C f VE "ValueError.__new__" = true) (hb : baseIn K G "ValueError.__init__" = true) (hm : mg "FormError" = some (.ref G)) (hx : xsetIn K C "sign" = true) : FnOk P w K mg base CX0 1 f fd ["self", "sign"] (spN1 C "sign") := by
  refine Fun.ok (k := 0) Fu sc_Twice (fun vs H Q E ⟨_, _, e, _⟩ => by rw [e]; rfl) fun cdv A outer s H vs Q E hr ⟨a, m, e, hm2, hH, hQ⟩ => ?_
  subst e
  refine ⟨_, (show PSs (cxOf CX0 P w K mg base ["self", "sign"] "Twice.__init__" (defScope st_Twice_init) f cdv A outer s H E).nox (defBody st_Twice_init) _ from
    pss_cons (ps_expr (pe_base PySem.F.excBase_ValueError q hb rfl hm (pa_cons (pvl 0) (pa_cons (pe_words (pj_str (pj_int (i := 1) rfl (.inl rfl) (pj_str pj_nil))) (by rw [sizeLine_eq]; decide)) pa_nil))))
    (pss_cons (ps_xf1 hx (pvl 0) (pvl 1) rfl) pss_nil)), ?_⟩
  refine ⟨.ref a, rfl, ⟨⟨m, rfl, hm2⟩, trivial⟩, fun x => ⟨a, .str x, none, rfl, hH, ?_⟩⟩
  exact ⟨.int m, rfl, .ref a, rfl, a, rfl, hH, fun dx hdx => hQ dx hdx⟩
abbrev st_NoPair_init : Stmt := inClass (top 4) 0
theorem sc_NoPair : FnScope ["self", "sign"] ["self", "sign"] (defScope st_NoPair_init) := ⟨rfl, rfl, rfl, by decide +kernel, rfl, by decide +kernel, by decide +kernel⟩
theorem ok_NoPair (Fu : Fun K "__init__" "NoPair.__init__" st_NoPair_init f fd) (q : excOwn K C f VE "ValueError.__new__" = true) (hb : baseIn K G "ValueError.__init__" = true) (hm : mg "FormError" = some (.ref G)) (hx : xsetIn K C "sign" = true) : FnOk P w K mg base CX0 1 f fd ["self", "sign"] (spN1 C "sign") := by
  refine Fun.ok (k := 0) Fu sc_NoPair (fun vs H Q E ⟨_, _, e, _⟩ => by rw [e]; rfl) fun cdv A outer s H vs Q E hr ⟨a, m, e, hm2, hH, hQ⟩ => ?_
  subst e
  refine ⟨_, (show PSs (cxOf CX0 P w K mg base ["self", "sign"] "NoPair.__init__" (defScope st_NoPair_init) f cdv A outer s H E).nox (defBody st_NoPair_init) _ from
    pss_cons (ps_expr (pe_base PySem.F.excBase_ValueError q hb rfl hm (pa_cons (pvl 0) (pa_cons (pe_words (pj_str (pj_int (i := 1) rfl (.inl rfl) (pj_str pj_nil))) (by rw [sizeLine_eq]; decide)) pa_nil))))
    (pss_cons (ps_xf1 hx (pvl 0) (pvl 1) rfl) pss_nil)), ?_⟩
  refine ⟨.ref a, rfl, ⟨⟨m, rfl, hm2⟩, trivial⟩, fun x => ⟨a, .str x, none, rfl, hH, ?_⟩⟩
  exact ⟨.int m, rfl, .ref a, rfl, a, rfl, hH, fun dx hdx => hQ dx hdx⟩
abbrev st_Same_init : Stmt := inClass (top 5) 0
theorem sc_Same : FnScope ["self", "one", "other"] ["self", "one", "other"] (defScope st_Same_init) := ⟨rfl, rfl, rfl, by decide +kernel, rfl, by decide +kernel, by decide +kernel⟩
theorem ok_Same (Fu : Fun K "__init__" "Same.__init__" st_Same_init f fd) (q : excOwn K C f VE "ValueError.__new__" = true) (hb : baseIn K G "ValueError.__init__" = true) (hm : mg "FormError" = some (.ref G)) (hx : xsetIn K C "one" = true) (hy : xsetIn K C "other" = true) : FnOk P w K mg base CX0 1 f fd ["self", "one", "other"] (spN2 C "one" "other") := by
  refine Fun.ok (k := 0) Fu sc_Same (fun vs H Q E ⟨_, _, _, e, _⟩ => by rw [e]; rfl) fun cdv A outer s H vs Q E hr ⟨a, m, n, e, hm2, hn2, hH, hQ⟩ => ?_
  subst e
  refine ⟨_, (show PSs (cxOf CX0 P w K mg base ["self", "one", "other"] "Same.__init__" (defScope st_Same_init) f cdv A outer s H E).nox (defBody st_Same_init) _ from
    pss_cons (ps_expr (pe_base PySem.F.excBase_ValueError q hb rfl hm (pa_cons (pvl 0) (pa_cons (pe_words (pj_str (pj_int (i := 1) rfl (.inl rfl) (pj_str (pj_int (i := 2) rfl (.inl rfl) (pj_str pj_nil))))) (by rw [sizeLine_eq]; decide)) pa_nil))))
    (pss_cons (ps_xf1 hx (pvl 0) (pvl 1) rfl) (pss_cons (ps_xf2 hy (pvl 0) (pvl 2) rfl) pss_nil))), ?_⟩
  refine ⟨.ref a, rfl, ⟨⟨m, rfl, hm2⟩, ⟨n, rfl, hn2⟩, trivial⟩, fun x => ⟨a, .str x, none, rfl, hH, ?_⟩⟩
  refine ⟨.int m, rfl, .ref a, rfl, a, rfl, hH, fun dx hdx => ?_⟩
  have na : dx ≠ a := fun z => by rw [z, hH] at hdx; injection hdx
  exact ⟨.int n, rfl, .ref a, rfl, a, dx, [("one", .int m)], rfl, upd_same, by rw [upd_ne na, upd_same], na, (show 1 < 1000 by decide), hQ dx hdx⟩
abbrev st_TooLong_init : Stmt := inClass (top 7) 0
theorem sc_TooLong : FnScope ["self", "sign"] ["self", "sign"] (defScope st_TooLong_init) := ⟨rfl, rfl, rfl, by decide +kernel, rfl, by decide +kernel, by decide +kernel⟩
theorem ok_TooLong (Fu : Fun K "__init__" "TooLong.__init__" st_TooLong_init f fd) (q : excOwn K C f VE "ValueError.__new__" = true) (hb : baseIn K G "ValueError.__init__" = true) (hm : mg "FormError" = some (.ref G)) (hx : xsetIn K C "sign" = true) : FnOk P w K mg base CX0 1 f fd ["self", "sign"] (spN1 C "sign") := by
  refine Fun.ok (k := 0) Fu sc_TooLong (fun vs H Q E ⟨_, _, e, _⟩ => by rw [e]; rfl) fun cdv A outer s H vs Q E hr ⟨a, m, e, hm2, hH, hQ⟩ => ?_
  subst e
  refine ⟨_, (show PSs (cxOf CX0 P w K mg base ["self", "sign"] "TooLong.__init__" (defScope st_TooLong_init) f cdv A outer s H E).nox (defBody st_TooLong_init) _ from
    pss_cons (ps_expr (pe_base PySem.F.excBase_ValueError q hb rfl hm (pa_cons (pvl 0) (pa_cons (pe_words (pj_str (pj_int (i := 1) rfl (.inl rfl) (pj_str pj_nil))) (by rw [sizeLine_eq]; decide)) pa_nil))))
    (pss_cons (ps_xf1 hx (pvl 0) (pvl 1) rfl) pss_nil)), ?_⟩
  refine ⟨.ref a, rfl, ⟨⟨m, rfl, hm2⟩, trivial⟩, fun x => ⟨a, .str x, none, rfl, hH, ?_⟩⟩
  exact ⟨.int m, rfl, .ref a, rfl, a, rfl, hH, fun dx hdx => hQ dx hdx⟩
abbrev st_Unlike_init : Stmt := inClass (top 9) 0
theorem sc_Unlike : FnScope ["self", "at"] ["self", "at"] (defScope st_Unlike_init) := ⟨rfl, rfl, rfl, by decide +kernel, rfl, by decide +kernel, by decide +kernel⟩
theorem ok_Unlike (Fu : Fun K "__init__" "Unlike.__init__" st_Unlike_init f fd) (q : excOwn K C f VE "ValueError.__new__" = true) (hb : baseIn K G "ValueError.__init__" = true) (hm : mg "FormError" = some (.ref G)) (hx : xsetIn K C "at" = true) : FnOk P w K mg base CX0 1 f fd ["self", "at"] (spN1 C "at") := by
  refine Fun.ok (k := 0) Fu sc_Unlike (fun vs H Q E ⟨_, _, e, _⟩ => by rw [e]; rfl) fun cdv A outer s H vs Q E hr ⟨a, m, e, hm2, hH, hQ⟩ => ?_
  subst e
  refine ⟨_, (show PSs (cxOf CX0 P w K mg base ["self", "at"] "Unlike.__init__" (defScope st_Unlike_init) f cdv A outer s H E).nox (defBody st_Unlike_init) _ from
    pss_cons (ps_expr (pe_base PySem.F.excBase_ValueError q hb rfl hm (pa_cons (pvl 0) (pa_cons (pe_words (pj_str (pj_int (i := 1) rfl (.inl rfl) pj_nil)) (by rw [sizeLine_eq]; decide)) pa_nil))))
    (pss_cons (ps_xf1 hx (pvl 0) (pvl 1) rfl) pss_nil)), ?_⟩
  refine ⟨.ref a, rfl, ⟨⟨m, rfl, hm2⟩, trivial⟩, fun x => ⟨a, .str x, none, rfl, hH, ?_⟩⟩
  exact ⟨.int m, rfl, .ref a, rfl, a, rfl, hH, fun dx hdx => hQ dx hdx⟩
abbrev st_NotFormed_init : Stmt := inClass (top 11) 0
theorem sc_NotFormed : FnScope ["self", "which"] ["self", "which"] (defScope st_NotFormed_init) := ⟨rfl, rfl, rfl, by decide +kernel, rfl, by decide +kernel, by decide +kernel⟩
theorem ok_NotFormed (Fu : Fun K "__init__" "NotFormed.__init__" st_NotFormed_init f fd) (q : excOwn K C f VE "ValueError.__new__" = true) (hb : baseIn K G "ValueError.__init__" = true) (hm : mg "FormError" = some (.ref G)) (hx : xsetIn K C "which" = true) : FnOk P w K mg base CX0 1 f fd ["self", "which"] (spN1 C "which") := by
  refine Fun.ok (k := 0) Fu sc_NotFormed (fun vs H Q E ⟨_, _, e, _⟩ => by rw [e]; rfl) fun cdv A outer s H vs Q E hr ⟨a, m, e, hm2, hH, hQ⟩ => ?_
  subst e
  refine ⟨_, (show PSs (cxOf CX0 P w K mg base ["self", "which"] "NotFormed.__init__" (defScope st_NotFormed_init) f cdv A outer s H E).nox (defBody st_NotFormed_init) _ from
    pss_cons (ps_expr (pe_base PySem.F.excBase_ValueError q hb rfl hm (pa_cons (pvl 0) (pa_cons (pe_words (pj_str (pj_int (i := 1) rfl (.inl rfl) (pj_str pj_nil))) (by rw [sizeLine_eq]; decide)) pa_nil))))
    (pss_cons (ps_xf1 hx (pvl 0) (pvl 1) rfl) pss_nil)), ?_⟩
  refine ⟨.ref a, rfl, ⟨⟨m, rfl, hm2⟩, trivial⟩, fun x => ⟨a, .str x, none, rfl, hH, ?_⟩⟩
  exact ⟨.int m, rfl, .ref a, rfl, a, rfl, hH, fun dx hdx => hQ dx hdx⟩
abbrev st_Double_init : Stmt := inClass (top 12) 0
theorem sc_Double : FnScope ["self", "at"] ["self", "at"] (defScope st_Double_init) := ⟨rfl, rfl, rfl, by decide +kernel, rfl, by decide +kernel, by decide +kernel⟩
theorem ok_Double (Fu : Fun K "__init__" "Double.__init__" st_Double_init f fd) (q : excOwn K C f VE "ValueError.__new__" = true) (hb : baseIn K G "ValueError.__init__" = true) (hm : mg "FormError" = some (.ref G)) (hx : xsetIn K C "at" = true) : FnOk P w K mg base CX0 1 f fd ["self", "at"] (spN1 C "at") := by
  refine Fun.ok (k := 0) Fu sc_Double (fun vs H Q E ⟨_, _, e, _⟩ => by rw [e]; rfl) fun cdv A outer s H vs Q E hr ⟨a, m, e, hm2, hH, hQ⟩ => ?_
  subst e
  refine ⟨_, (show PSs (cxOf CX0 P w K mg base ["self", "at"] "Double.__init__" (defScope st_Double_init) f cdv A outer s H E).nox (defBody st_Double_init) _ from
    pss_cons (ps_expr (pe_base PySem.F.excBase_ValueError q hb rfl hm (pa_cons (pvl 0) (pa_cons (pe_words (pj_str (pj_int (i := 1) rfl (.inl rfl) (pj_str pj_nil))) (by rw [sizeLine_eq]; decide)) pa_nil))))
    (pss_cons (ps_xf1 hx (pvl 0) (pvl 1) rfl) pss_nil)), ?_⟩
  refine ⟨.ref a, rfl, ⟨⟨m, rfl, hm2⟩, trivial⟩, fun x => ⟨a, .str x, none, rfl, hH, ?_⟩⟩
  exact ⟨.int m, rfl, .ref a, rfl, a, rfl, hH, fun dx hdx => hQ dx hdx⟩
abbrev st_NoKind_init : Stmt := inClass (top 13) 0
theorem sc_NoKind : FnScope ["self", "at"] ["self", "at"] (defScope st_NoKind_init) := ⟨rfl, rfl, rfl, by decide +kernel, rfl, by decide +kernel, by decide +kernel⟩
theorem ok_NoKind (Fu : Fun K "__init__" "NoKind.__init__" st_NoKind_init f fd) (q : excOwn K C f VE "ValueError.__new__" = true) (hb : baseIn K G "ValueError.__init__" = true) (hm : mg "FormError" = some (.ref G)) (hx : xsetIn K C "at" = true) : FnOk P w K mg base CX0 1 f fd ["self", "at"] (spN1 C "at") := by
  refine Fun.ok (k := 0) Fu sc_NoKind (fun vs H Q E ⟨_, _, e, _⟩ => by rw [e]; rfl) fun cdv A outer s H vs Q E hr ⟨a, m, e, hm2, hH, hQ⟩ => ?_
  subst e
  refine ⟨_, (show PSs (cxOf CX0 P w K mg base ["self", "at"] "NoKind.__init__" (defScope st_NoKind_init) f cdv A outer s H E).nox (defBody st_NoKind_init) _ from
    pss_cons (ps_expr (pe_base PySem.F.excBase_ValueError q hb rfl hm (pa_cons (pvl 0) (pa_cons (pe_words (pj_str (pj_int (i := 1) rfl (.inl rfl) (pj_str pj_nil))) (by rw [sizeLine_eq]; decide)) pa_nil))))
    (pss_cons (ps_xf1 hx (pvl 0) (pvl 1) rfl) pss_nil)), ?_⟩
  refine ⟨.ref a, rfl, ⟨⟨m, rfl, hm2⟩, trivial⟩, fun x => ⟨a, .str x, none, rfl, hH, ?_⟩⟩
  exact ⟨.int m, rfl, .ref a, rfl, a, rfl, hH, fun dx hdx => hQ dx hdx⟩
end
end K19
namespace K19
open Vi
open PySem (Str)
abbrev names : List Str := ["NoRow", "Twice", "NoPair", "Same", "Ring", "TooLong", "NoStep", "Unlike", "TooMany", "NotFormed", "Double", "NoKind", "Nothing", "NoPlace", "NoUndo"]
abbrev nameOf (c : Nat) : Str := names.getD c "NoRow"
def bk (k c : Nat) : Bool := nameOf c == nameOf k
def f_l_cell_at : Fn := ⟨2, 2, [
  .ifs (.cmp .lt (.var 1) (.bi .len [(.var 0)])) [.ret (.ix (.var 0) (.var 1))] [],
  .ret (.int 0)]⟩
def f_l_whole : Fn := ⟨1, 1, [
  .ret (.and (.bi .isInt [(.var 0)]) (.not (.bi .isBool [(.var 0)])))]⟩
def f_l_classes : Fn := ⟨1, 3, [
  .set 1 (.lst [(.call 200 [(.var 0)]), (.call 201 [(.var 0)]), (.call 202 [(.var 0)]), (.call 203 [(.var 0)])]),
  .set 1 (.bin .add (.var 1) (.lst [(.call 204 [(.var 0)]), (.call 205 [(.var 0)]), (.call 206 [(.var 0)]), (.call 207 [(.var 0)])])),
  .set 1 (.bin .add (.var 1) (.lst [(.call 208 [(.var 0)]), (.call 209 [(.var 0)]), (.call 210 [(.var 0)]), (.call 211 [(.var 0)])])),
  .set 1 (.bin .add (.var 1) (.lst [(.call 212 [(.var 0)]), (.call 213 [(.var 0)]), (.call 214 [(.var 0)])])),
  .ret (.bin .add (.comp (.var 2) [2] true .range [(.int 15)] (.ix (.var 1) (.var 2))) (.bin .mul (.lst [(.int 15)]) (.ife (.and (.call 216 [(.var 0)]) (.bl true)) (.int 1) (.int 0))))]⟩
def f_l_right : Fn := ⟨4, 8, [
  .for [4] true .range [(.int 15)] [.ifs (.or (.not (.call 215 [(.ix (.var 0) (.var 4))])) (.cmp .ne (.call 32 [(.ix (.var 0) (.var 4))]) (.lst [(.var 4), (.int 15)]))) [.ret (.bl false)] []],
  .set 5 (.lst [(.fld (.ix (.var 0) (.int 0)) "at"), (.fld (.ix (.var 0) (.int 1)) "sign"), (.fld (.ix (.var 0) (.int 2)) "sign"), (.fld (.ix (.var 0) (.int 3)) "one")]),
  .set 5 (.bin .add (.var 5) (.lst [(.fld (.ix (.var 0) (.int 3)) "other"), (.fld (.ix (.var 0) (.int 5)) "sign"), (.fld (.ix (.var 0) (.int 7)) "at")])),
  .set 5 (.bin .add (.var 5) (.lst [(.fld (.ix (.var 0) (.int 9)) "which"), (.fld (.ix (.var 0) (.int 10)) "at"), (.fld (.ix (.var 0) (.int 11)) "at")])),
  .ifs (.or (.not (.bi .all [(.comp (.call 31 [(.var 6)]) [6] true .each [(.var 5)] (.bl true))])) (.not (.bi .isList [(.fld (.ix (.var 0) (.int 4)) "signs")]))) [.ret (.bl false)] [],
  .set 7 (.lst [(.var 1), (.var 2), (.var 1), (.var 1), (.var 2), (.var 2), (.var 1)]),
  .set 7 (.bin .add (.var 7) (.lst [(.var 2), (.var 1), (.var 2)])),
  .ret (.and (.cmp .eq (.var 5) (.var 7)) (.cmp .eq (.fld (.ix (.var 0) (.int 4)) "signs") (.var 3)))]⟩
def f_law : Fn := ⟨1, 9, [
  .set 1 (.call 30 [(.var 0), (.int 0)]),
  .set 2 (.bin .mod (.call 30 [(.var 0), (.int 1)]) (.bin .pow (.int 10) (.int 60))),
  .set 3 (.bin .mod (.call 30 [(.var 0), (.int 2)]) (.int 97)),
  .set 4 (.comp (.bin .mod (.var 5) (.bin .pow (.int 10) (.int 60))) [5] true .each [(.sl (.var 0) (.int 3) (.bin .add (.int 3) (.bin .mod (.bin .fdiv (.var 1) (.int 2)) (.int 21))))] (.bl true)),
  .set 6 (.bi .list [(.var 4)]),
  .set 7 (.call 33 [(.var 2), (.var 3), (.var 6), (.bin .mod (.var 1) (.int 2))]),
  .set 8 (.call 33 [(.var 3), (.var 2), (.bin .add (.var 6) (.lst [(.int 7)])), (.bin .sub (.int 1) (.bin .mod (.var 1) (.int 2)))]),
  .ifs (.cmp .ne (.var 6) (.var 4)) [.ret (.bl false)] [],
  .app 6 (.int 5),
  .ifs (.or (.not (.call 34 [(.var 7), (.var 2), (.var 3), (.var 4)])) (.not (.call 34 [(.var 8), (.var 3), (.var 2), (.bin .add (.var 4) (.lst [(.int 7)]))]))) [.ret (.bl false)] [],
  .clr 6,
  .ret (.call 34 [(.var 7), (.var 2), (.var 3), (.var 4)])]⟩
def t0 : Tab := ⟨fun _ _ => .bad, K12.nofn⟩
def r_cell_at := f_l_cell_at.run t0
def r_whole := f_l_whole.run t0
def t1 : Tab := ⟨fun i => match i with | 200 => isF (bk 0) | 201 => isF (bk 1) | 202 => isF (bk 2) | 203 => isF (bk 3) | 204 => isF (bk 4) | 205 => isF (bk 5) | 206 => isF (bk 6) | 207 => isF (bk 7) | 208 => isF (bk 8) | 209 => isF (bk 9) | 210 => isF (bk 10) | 211 => isF (bk 11) | 212 => isF (bk 12) | 213 => isF (bk 13) | 214 => isF (bk 14) | 216 => isF (fun _ => true) | _ => fun _ => .bad, K12.nofn⟩
def r_classes := f_l_classes.run t1
def t2 : Tab := ⟨fun i => match i with | 220 => newF 0 "at" | 221 => newF 1 "sign" | 222 => newF 2 "sign" | 223 => newF2 3 "one" "other" | 224 => newR 4 "signs" | 225 => newF 5 "sign" | 226 => newP 6 | 227 => newF 7 "at" | 228 => newP 8 | 229 => newF 9 "which" | 230 => newF 10 "at" | 231 => newF 11 "at" | 232 => newP 12 | 233 => newP 13 | 234 => newP 14 | _ => fun _ => .bad, K12.nofn⟩
abbrev m0 : S := .set 4 (.lst [(.call 220 [(.var 0)]), (.call 221 [(.var 1)]), (.call 222 [(.var 0)]), (.call 223 [(.var 0), (.var 1)]), (.call 224 [(.var 2)]), (.call 225 [(.var 1)])])
abbrev m1 : S := .ifs (.cmp .eq (.var 3) (.int 0)) [.app 4 (.call 226 [])] [.app 4 (.call 226 [(.str "a word")])]
abbrev m2 : List E := [(.call 227 [(.var 0)]), (.call 228 [(.str "too many")]), (.call 229 [(.var 1)]), (.call 230 [(.var 0)]), (.call 231 [(.var 1)])]
abbrev m3 : List E := [(.call 232 [(.str "nothing")]), (.call 233 []), (.call 234 [(.str "none")])]
abbrev m4 : List E := [(.call 232 []), (.call 233 [(.str "no door")]), (.call 234 [])]
def wM (M : Tab) (ρ : Env) : Out := (runS M m0 ρ).bind fun ρ => (runS M m1 ρ).bind fun ρ => (catS M 4 m2 ρ).bind fun ρ => (ifF M (.cmp .eq (.var 3) (.int 0)) (retCat M 4 m3) (fun ρ => runSs M [] ρ) ρ).bind fun ρ => retCat M 4 m4 ρ
def r_made : List D → R D := runX 4 5 (wM t2)
def t3 : Tab := ⟨fun i => match i with | 31 => r_whole | 32 => r_classes | 215 => isF (fun _ => true) | _ => fun _ => .bad, K12.nofn⟩
def r_right := f_l_right.run t3
def t4 : Tab := ⟨fun i => match i with | 30 => r_cell_at | 33 => r_made | 34 => r_right | _ => fun _ => .bad, K12.nofn⟩
def r_law := f_law.run t4
open PySem PySem.Spec PyProof.Rows L2 Vi
abbrev plains : List Str := ["NoStep", "TooMany", "Nothing", "NoPlace", "NoUndo"]
abbrev fields : List Str := ["at", "sign", "one", "other", "signs", "which"]
abbrev clX (g : Str → Addr) (c : Nat) : Addr := g (nameOf c)
structure XA (K : PySem.W.Frag) (mg : Str → Option Value) (g : Str → Addr) : Prop where
  nm : ∀ n ∈ names, mg n = some (.ref (g n))
  fe : mg "FormError" = some (.ref (g "FormError"))
  ve : mg "ValueError" = none
  hd : ∀ n ∈ names, xcHead K (g n) = true
  ko : ∀ n ∈ names, ∀ m ∈ names, PySem.W.kitOne K (.ref (g n)) (.ref (g m)) = some (n == m)
  kf : ∀ n ∈ names, PySem.W.kitOne K (.ref (g n)) (.ref (g "FormError")) = some true
  kv : ∀ n ∈ names, PySem.W.kitOne K (.ref (g n)) (.type "ValueError") = some true
  kp : ∀ n ∈ names, PySem.W.keepIn K (.ref (g n)) = true
  pl : ∀ n ∈ plains, PySem.W.excIn K (g n) VE "ValueError.__new__" = true
  xn : ∀ n ∈ names, ∀ f ∈ fields, xgetIn K (g n) f = true
theorem name_mem (c : Nat) : nameOf c ∈ names := by
  unfold nameOf
  rw [List.getD_eq_getElem?_getD]
  cases e : names[c]? with
  | none => decide
  | some n => exact List.mem_of_getElem? e
theorem bt_ve : bootBuiltins "ValueError" = some (.type "ValueError") := by decide +kernel
section
variable {K : PySem.W.Frag} {mg : Str → Option Value} {g : Str → Addr}
theorem XA.is (X : XA K mg g) (k : Nat) (c : Nat) : xcHead K (clX g c) = true ∧ PySem.W.kitOne K (.ref (clX g c)) (.ref (g (nameOf k))) = some (bk k c) := ⟨X.hd _ (name_mem c), X.ko _ (name_mem c) _ (name_mem k)⟩
theorem XA.isF (X : XA K mg g) (c : Nat) : xcHead K (clX g c) = true ∧ PySem.W.kitOne K (.ref (clX g c)) (.ref (g "FormError")) = some true := ⟨X.hd _ (name_mem c), X.kf _ (name_mem c)⟩
theorem XA.isV (X : XA K mg g) (c : Nat) : xcHead K (clX g c) = true ∧ PySem.W.kitOne K (.ref (clX g c)) (.type "ValueError") = some true := ⟨X.hd _ (name_mem c), X.kv _ (name_mem c)⟩
theorem XA.xg (X : XA K mg g) (f : Str) (h : f ∈ fields) (c : Nat) : xgetIn K (clX g c) f = true := X.xn _ (name_mem c) f h
end
open PySem PySem.Spec PyProof.Rows L2 Vi K12
abbrev st_Ring_init : Stmt := inClass (top 6) 0
theorem sc_Ring_init : FnScope ["self", "signs", "told", "sign"] ["self", "signs"] (defScope st_Ring_init) := ⟨rfl, rfl, rfl, by decide +kernel, rfl, by decide +kernel, by decide +kernel⟩
theorem bt_str : bootBuiltins "str" = some (.type "str") := by decide +kernel
theorem bt_list : bootBuiltins "list" = some (.type "list") := by decide +kernel
abbrev eL : Expr := match (defBody st_Ring_init).getD 2 (.Pass ⟨0, 0, 0, 0⟩) with
  | .Assign _ v _ => v
  | _ => .Name "" ⟨0, 0, 0, 0⟩
def tR : Tab := ⟨fun i => match i with | 217 => strF | 218 => joinF ", " | _ => fun _ => .bad, K12.nofn⟩
abbrev sR : S := .set 2 (.call 218 [(.comp (.call 217 [(.var 3)]) [3] true .each [(.var 1)] (.bl true))])
theorem strsD_map (f : Int → Str) : ∀ ns : List Int, strsD (ns.map fun m => D.str (f m)) = some (ns.map f) := by
  intro ns
  induction ns with
  | nil => rfl
  | cons m ns ih =>
    show (strsD (ns.map fun m => D.str (f m))).map (f m :: ·) = _
    rw [ih]; rfl
theorem sum_b {f : Int → Str} {b : Nat} : ∀ {ns : List Int}, (∀ m ∈ ns, (f m).length ≤ b) → ((ns.map f).map (·.length)).sum ≤ ns.length * b := by
  intro ns
  induction ns with
  | nil => intro _; exact Nat.zero_le _
  | cons m ns ih =>
    intro h
    have h1 := h m List.mem_cons_self
    have h2 := ih fun z hz => h z (List.mem_cons_of_mem _ hz)
    rw [List.map_cons, List.map_cons, List.sum_cons, List.length_cons, Nat.add_mul]
    omega
theorem ring_run {ns : List Int} (hs : ∀ m ∈ ns, small m) (hl : ns.length ≤ 100) (u : O) :
    ∃ x : Str, x.length ≤ 300000 ∧ runS tR sR [u, some (.lst (ns.map D.int), false), none, none] = .nx [u, some (.lst (ns.map D.int), false), some (.str x, true), none] := by
  have len : ∀ m ∈ ns, (Str.ofString (toString m)).length ≤ 1921 := fun m hm => by
    have e := int_text_length_le (k := 1920) (by decide) (hs m hm)
    rw [PySem.ofString_length]; omega
  have tot := sum_b (f := fun m => Str.ofString (toString m)) len
  have mul : ns.length * 1921 ≤ 192100 := Nat.le_trans (Nat.mul_le_mul_right _ hl) (by decide)
  have l2 : (Str.ofString ", ").length = 2 := by decide
  have jl : (Txt.join ", " (ns.map fun m => Str.ofString (toString m))).length ≤ 300000 := by
    unfold Txt.join
    rw [StrLaws.glued_eq_join]
    have e := StrLaws.join_length_le (Str.ofString ", ") (ns.map fun m => Str.ofString (toString m))
    rw [List.length_map, l2] at e
    omega
  have jok : JoinOk ", " (ns.map fun m => Str.ofString (toString m)) = true := by
    unfold JoinOk
    rw [Bool.not_eq_true']
    unfold Builtin.Str.tooLong
    rw [StrLaws.joinTotal, List.length_map, l2, sizeLine_eq]
    exact decide_eq_false (by omega)
  refine ⟨Txt.join ", " (ns.map fun m => Str.ofString (toString m)), jl, run_set (k := .sto []) (run_call (ds := [.lst (ns.map fun m => D.str (Str.ofString (toString m)))]) (k := .sto []) (run_es1 (k := .sto []) (k' := .sto []) (run_comp (xs := ns.map D.int) (k := .old) (b := true) rfl (by rw [List.length_map]; omega) (compL_all D.int (fun m => D.str (Str.ofString (toString m))) ns fun m hm => ?_)) run_es0) ?_) rfl⟩
  · exact turnC_t (ρ1 := (inComp [u, some (.lst (ns.map D.int), false), none, none] [3]).set 3 (some (.int m, true))) rfl rfl (run_call (ds := [.int m]) (k := .sto []) rfl (by show strF [.int m] = _; unfold strF; exact if_pos (hs m hm)))
  · show joinF ", " [.lst (ns.map fun m => D.str (Str.ofString (toString m)))] = _
    unfold joinF
    simp only [strsD_map (fun m => Str.ofString (toString m)), if_pos jok]
theorem ok_Ring {P : Program} {w : World} {K : PySem.W.Frag} {mg : Str → Option Value} {base : Heap} {C G f : Addr} {fd : FuncData} (Fu : Fun K "__init__" "Ring.__init__" st_Ring_init f fd) (q : excOwn K C f VE "ValueError.__new__" = true) (hb : baseIn K G "ValueError.__init__" = true) (hm : mg "FormError" = some (.ref G)) (hx : xsetIn K C "signs" = true) (mS : mg "str" = none) (mL : mg "list" = none) :
    FnOk P w K mg base CX0 4 f fd ["self", "signs"] (spNR C "signs") := by
  refine Fun.ok (k := 3) Fu sc_Ring_init (fun vs H Q E ⟨_, _, _, e, _⟩ => by rw [e]; rfl) fun cdv A outer s H vs Q E hr ⟨a, z, ns, e, hsm, hln, hH, hz, hQ⟩ => ?_
  subst e
  let X : Cx := (cxOf CX0 P w K mg base ["self", "signs", "told", "sign"] "Ring.__init__" (defScope st_Ring_init) f cdv A outer s H E).nox
  let cl : Nat → Addr := fun _ => C
  have g1 : GS X cl tR ((defBody st_Ring_init).getD 0 (.Pass ⟨0, 0, 0, 0⟩)) sR :=
    (gs_set (i := 2) sc_Ring_init.nd rfl (Or.inl rfl) rfl (Or.inl rfl) (g_join rfl rfl rfl rfl rfl rfl (g_comp rfl (compSc_of rfl (by kernel_rfl)) (how_of (by kernel_rfl)) (fun _ => rfl) (gi_each (g_var (i := 1) rfl (Or.inl rfl) rfl rfl)) (fun X0 hX0 => by obtain ⟨C0, fp0, pins0, s0, H0, rfl⟩ := hX0; exact (pg_name (i := 3) sc_Ring_init.nd rfl (Or.inl rfl))) bind_one (Or.inl ⟨rfl, rfl⟩) (fun X0 hX0 => by obtain ⟨C0, fp0, pins0, s0, H0, rfl⟩ := hX0; exact (g_strI rfl rfl mS bt_str rfl rfl (g_var (i := 3) rfl (Or.inl rfl) rfl rfl))))))
  obtain ⟨x, hxl, hrun⟩ := ring_run hsm hln (some (.obj 0 [], false))
  let ρ0 : Vi.Env := [some (.obj 0 [], false), some (.lst (ns.map D.int), false), none, none]
  let ρ1 : Vi.Env := [some (.obj 0 [], false), some (.lst (ns.map D.int), false), some (.str x, true), none]
  have g1' : PS X ((defBody st_Ring_init).getD 0 (.Pass ⟨0, 0, 0, 0⟩)) (tSd cl ρ0 [2] (.nx ρ1)) := by
    have := g1 ρ0
    rw [hrun] at this
    exact this
  have g3 : GE X cl tR eL (.bi .list [.var 1]) := g_biT (id := "list") (fun ds z h => bi_list h) rfl mL bt_list (by decide +kernel) rfl rfl rfl (ga_cons rfl (g_var (i := 1) rfl (Or.inl rfl) rfl rfl) ga_nil)
  have hl3 : runE tR (.bi .list [.var 1]) ρ1 = .ok (.lst (ns.map D.int), .sto []) := K21.run_list (k := .old) rfl
  have r : RepL cl H [.obj 0 [], .lst (ns.map D.int)] [.ref a, .ref z] ([a] ++ ([z] ++ [])) := ⟨.ref a, [.ref z], [a], [z] ++ [], rfl, rfl, .e0 a rfl rfl hH rfl ⟨rfl, rfl⟩, ⟨.ref z, [], [z], [], rfl, rfl, ⟨z, ns.map V.int, [], rfl, rfl, repI_ints ns, hz⟩, ⟨rfl, rfl⟩⟩⟩
  obtain ⟨F0, S0⟩ := start_sok (n := 4) (N := ["self", "signs", "told", "sign"]) r rfl (by show 2 ≤ 4; decide)
  refine ⟨_, (show PSs X (defBody st_Ring_init) _ from
    pss_cons g1' (pss_cons (ps_expr (pe_base PySem.F.excBase_ValueError q hb rfl hm (pa_cons (pvl 0) (pa_cons (pe_words (pj_str (pj_var 300000 (i := 2) rfl (.inl rfl) pj_nil)) (by rw [sizeLine_eq]; decide)) pa_nil))))
    (pss_cons (ps_xf1 hx (pvl 0) (g3 ρ1 (.lst (ns.map D.int)) (.sto []) hl3) rfl) pss_nil))), ?_⟩
  refine ⟨H, F0, S0, fun σ1 H1 F1 S1 fr1 => ?_⟩
  have e0 : σ1[0]? = some (some (.ref a)) := fr1 0 (by decide)
  obtain ⟨v2, ev2, rv2⟩ := S1.rep 2 (.str x) true rfl
  obtain ⟨rfl, _⟩ := rv2
  have hH1 := S1.same a _ hH
  refine ⟨.ref a, e0, ⟨⟨x, ev2, hxl⟩, trivial⟩, fun y => ⟨a, .str y, none, rfl, hH1, ?_⟩⟩
  refine ⟨H, F1, S1, fun v H2 fp s2 r2 k2 => ?_⟩
  obtain ⟨l, ws, g, rfl, ef, rl, hw⟩ := r2
  obtain ⟨rfl, rfl⟩ := rep_ints rl
  obtain ⟨_, _, m2, n2⟩ := k2
  have lm : l ∈ fp := by rw [ef]; exact List.mem_cons_self
  have hl1 : H1 l = none := by
    rcases m2 l lm with w | ⟨i, hi, _⟩
    · exact w
    · exact nomatch hi
  have hL : H2 l = some (.lst (ns.map V.int)) := by
    rcases hw with w | ⟨o, w⟩
    · exact w
    · exact absurd w (n2 l lm o _)
  have hH2 := s2 a _ hH1
  refine ⟨.ref a, e0, a, rfl, hH2, fun dx hdx => ?_⟩
  have na : dx ≠ a := fun w => by rw [w, hH2] at hdx; injection hdx
  have nl : dx ≠ l := fun w => by rw [w, hL] at hdx; injection hdx
  have la : l ≠ a := fun w => by rw [w, hH1] at hl1; injection hl1
  refine hQ _ dx l (fun b o hb nb => ?_) ((S1.same.trans s2).free hdx) (S1.same.free hl1) nl upd_same (by rw [upd_ne na, upd_same]) (by rw [upd_ne la, upd_ne (Ne.symm nl)]; exact hL)
  have e2 := s2 b o (S1.same b o hb)
  rw [upd_ne nb, upd_ne (ne_of_none e2 hdx)]; exact e2
end K19
namespace K19
open Vi K12
open PySem (Str)
def exD (a b : Int) (l : List D) : List D := [.obj 0 [("at", .int a)], .obj 1 [("sign", .int b)], .obj 2 [("sign", .int a)], .obj 3 [("one", .int a), ("other", .int b)], .obj 4 [("signs", .lst l)], .obj 5 [("sign", .int b)], .obj 6 [], .obj 7 [("at", .int a)], .obj 8 [], .obj 9 [("which", .int b)], .obj 10 [("at", .int a)], .obj 11 [("at", .int b)], .obj 12 [], .obj 13 [], .obj 14 []]
abbrev e8 (a b : Int) (l : List D) (x y z w : O) : Vi.Env := [some (.lst (exD a b l), false), some (.int a, false), some (.int b, false), some (.lst l, false), x, y, z, w]
abbrev ten (a b : Int) : List Int := [a, b, a, a, b, b, a, b, a, b]
theorem right_eq (a b : Int) (ns : List Int) : r_right [.lst (exD a b (ns.map D.int)), .int a, .int b, .lst (ns.map D.int)] = .ok (.bl true) := by
  let l := ns.map D.int
  let k : O := some (.int 14, true)
  let f1 : O := some (.lst ([a, b, a, a].map D.int), true)
  let f2 : O := some (.lst ([a, b, a, a, b, b, a].map D.int), true)
  let f3 : O := some (.lst ((ten a b).map D.int), true)
  have s0 : runS t3 (f_l_right.body.getD 0 .pass) (e8 a b l none none none none) = .nx (e8 a b l k none none none) := by kernel_rfl
  have s1 : runS t3 (f_l_right.body.getD 1 .pass) (e8 a b l k none none none) = .nx (e8 a b l k f1 none none) := by kernel_rfl
  have s2 : runS t3 (f_l_right.body.getD 2 .pass) (e8 a b l k f1 none none) = .nx (e8 a b l k f2 none none) := by kernel_rfl
  have s3 : runS t3 (f_l_right.body.getD 3 .pass) (e8 a b l k f2 none none) = .nx (e8 a b l k f3 none none) := by kernel_rfl
  have s4 : runS t3 (f_l_right.body.getD 4 .pass) (e8 a b l k f3 none none) = .nx (e8 a b l k f3 none none) := by kernel_rfl
  have s5 : runS t3 (f_l_right.body.getD 5 .pass) (e8 a b l k f3 none none) = .nx (e8 a b l k f3 none f2) := by kernel_rfl
  have s6 : runS t3 (f_l_right.body.getD 6 .pass) (e8 a b l k f3 none f2) = .nx (e8 a b l k f3 none f3) := by kernel_rfl
  have s7 : runE t3 (.and (.cmp .eq (.var 5) (.var 7)) (.cmp .eq (.fld (.ix (.var 0) (.int 4)) "signs") (.var 3))) (e8 a b l k f3 none f3) = .ok (.bl true, .sto []) := by
    have q1 : runE t3 (.cmp .eq (.var 5) (.var 7)) (e8 a b l k f3 none f3) = .ok (.bl true, .sto []) := run_cmp (x := .lst ((ten a b).map D.int)) (y := .lst ((ten a b).map D.int)) (k := .sto [5]) (k' := .sto [7]) rfl rfl (by rw [cmpD_1, eqD_il, decide_eq_true rfl])
    have q2 : runE t3 (.cmp .eq (.fld (.ix (.var 0) (.int 4)) "signs") (.var 3)) (e8 a b l k f3 none f3) = .ok (.bl true, .sto []) := run_cmp (x := .lst (ns.map D.int)) (y := .lst (ns.map D.int)) (k := .old) (k' := .old) (by kernel_rfl) rfl (by rw [cmpD_1, eqD_il, decide_eq_true rfl])
    exact (run_and_t q1).trans q2
  exact fn_rt rfl (by decide) ((ss_step s0).trans ((ss_step s1).trans ((ss_step s2).trans ((ss_step s3).trans ((ss_step s4).trans ((ss_step s5).trans ((ss_step s6).trans (ss_rt (is := []) s7))))))))
section
variable {a b : Int} {ns : List Int}
theorem newI {m : Int} {c : Nat} {f : Str} (h : small m) : newF c f [.int m] = .ok (.obj c [(f, .int m)]) := if_pos h
theorem ints_map : ∀ ns : List Int, intsD (ns.map D.int) = some ns := by
  intro ns
  induction ns with
  | nil => rfl
  | cons x ns ih =>
    show (intsD (ns.map D.int)).map (x :: ·) = _
    rw [ih]; rfl
abbrev e5 (a b : Int) (l : List D) (w : Int) (x : O) : Vi.Env := [some (.int a, false), some (.int b, false), some (.lst l, false), some (.int w, false), x]
theorem made_eq (ha : small a) (hb : small b) (hn : ∀ m ∈ ns, small m) (hl : ns.length ≤ 100) (w : Int) : r_made [.int a, .int b, .lst (ns.map D.int), .int w] = .ok (.lst (exD a b (ns.map D.int))) := by
  let l := ns.map D.int
  have nR : newR 4 "signs" [.lst (ns.map D.int)] = .ok (.obj 4 [("signs", .lst (ns.map D.int))]) := by
    unfold newR
    simp only [ints_map]
    exact if_pos ⟨hn, hl⟩
  have n2 : newF2 3 "one" "other" [.int a, .int b] = .ok (.obj 3 [("one", .int a), ("other", .int b)]) := if_pos ⟨ha, hb⟩
  have cA : ∀ (i c : Nat) (f : Str) (x : O), t2.fn i = newF c f → runE t2 (.call i [.var 0]) (e5 a b l w x) = .ok (.obj c [(f, .int a)], .sto []) := fun i c f x h => run_call (ds := [.int a]) (k := .sto []) rfl (by rw [h]; exact newI ha)
  have cB : ∀ (i c : Nat) (f : Str) (x : O), t2.fn i = newF c f → runE t2 (.call i [.var 1]) (e5 a b l w x) = .ok (.obj c [(f, .int b)], .sto []) := fun i c f x h => run_call (ds := [.int b]) (k := .sto []) rfl (by rw [h]; exact newI hb)
  have es : ∀ {x : O} {e : E} {r : List E} {d : D} {ds : List D}, runE t2 e (e5 a b l w x) = .ok (d, .sto []) → runEs t2 r (e5 a b l w x) = .ok (ds, .sto []) → runEs t2 (e :: r) (e5 a b l w x) = .ok (d :: ds, .sto []) := fun h1 h2 => run_es1 (k := .sto []) (k' := .sto []) h1 h2
  have s0 : runS t2 m0 (e5 a b l w none) = .nx (e5 a b l w (some (.lst ((exD a b l).take 6), true))) := run_set (d := .lst ((exD a b l).take 6)) (k := .sto []) (run_lst (k := .sto []) (es (cA 220 0 "at" _ rfl) (es (cB 221 1 "sign" _ rfl) (es (cA 222 2 "sign" _ rfl) (es (run_call (ds := [.int a, .int b]) (k := .sto []) rfl n2) (es (run_call (ds := [.lst l]) (k := .bor) rfl nR) (es (cB 225 5 "sign" _ rfl) run_es0)))))) (Nat.le_of_ble_eq_true rfl)) rfl
  have s1 : runS t2 m1 (e5 a b l w (some (.lst ((exD a b l).take 6), true))) = .nx (e5 a b l w (some (.lst ((exD a b l).take 7), true))) := by
    have q : runE t2 (.cmp .eq (.var 3) (.int 0)) (e5 a b l w (some (.lst ((exD a b l).take 6), true))) = .ok (.bl (w == 0), .sto []) := run_cmp (x := .int w) (y := .int 0) (k := .sto []) (k' := .sto []) rfl rfl rfl
    cases e : (w == 0) with
    | true =>
      rw [e] at q
      exact (run_ift q).trans (ss_one (by kernel_rfl))
    | false =>
      rw [e] at q
      exact (run_iff q).trans (ss_one (by kernel_rfl))
  have q2 : ∀ x, runEs t2 m2 (e5 a b l w x) = .ok (((exD a b l).drop 7).take 5, .sto []) := fun x => es (cA 227 7 "at" _ rfl) (es (d := .obj 8 []) (by kernel_rfl) (es (cB 229 9 "which" _ rfl) (es (cA 230 10 "at" _ rfl) (es (cB 231 11 "at" _ rfl) run_es0))))
  have s2 : catS t2 4 m2 (e5 a b l w (some (.lst ((exD a b l).take 7), true))) = .nx (e5 a b l w (some (.lst ((exD a b l).take 12), true))) := by
    unfold catS
    rw [show getV (e5 a b l w (some (.lst ((exD a b l).take 7), true))) 4 = .ok (.lst ((exD a b l).take 7), .sto [4]) from rfl, q2]
    rfl
  have f3 : retCat t2 4 m3 (e5 a b l w (some (.lst ((exD a b l).take 12), true))) = .rt (.lst (exD a b l)) := by kernel_rfl
  have f4 : retCat t2 4 m4 (e5 a b l w (some (.lst ((exD a b l).take 12), true))) = .rt (.lst (exD a b l)) := by kernel_rfl
  have all : wM t2 (e5 a b l w none) = .rt (.lst (exD a b l)) := by
    unfold wM
    rw [s0]
    show (runS t2 m1 _).bind _ = _
    rw [s1]
    show (catS t2 4 m2 _).bind _ = _
    rw [s2]
    show (ifF t2 _ _ _ _).bind _ = _
    have q : runE t2 (.cmp .eq (.var 3) (.int 0)) (e5 a b l w (some (.lst ((exD a b l).take 12), true))) = .ok (.bl (w == 0), .sto []) := run_cmp (x := .int w) (y := .int 0) (k := .sto []) (k' := .sto []) rfl rfl rfl
    unfold ifF
    rw [q]
    cases e : (w == 0) with
    | true =>
      show (retCat t2 4 m3 _).bind _ = _
      rw [f3]
      rfl
    | false =>
      show (runSs t2 [] _).bind _ = _
      rw [ss_nil0]
      exact f4
  show runX 4 5 (wM t2) _ = _
  unfold runX
  rw [if_pos ⟨rfl, by decide⟩]
  show (match wM t2 (e5 a b l w none) with | .rt d => R.ok d | _ => .bad) = _
  rw [all]
end
open Vi K12 K21
theorem small_of {m : Int} (h0 : 0 ≤ m) (h1 : m < 10 ^ 60) : small m := by
  show m.natAbs.log2 < 1920
  by_cases hz : m.natAbs = 0
  · rw [hz]; decide
  · refine (Nat.log2_lt hz).mpr (Nat.lt_trans (m := 10 ^ 60) ?_ (Nat.lt_of_lt_of_le (m := 2 ^ 200) (by decide) (Nat.pow_le_pow_right (by decide) (by decide))))
    omega
theorem small_mod (c : Int) : small (c % 10 ^ 60) := small_of (Int.emod_nonneg _ (by decide)) (Int.emod_lt_of_pos _ (by decide))
theorem small_97 (c : Int) : small (c % 97) := small_of (by omega) (by omega)
theorem small_7 : small 7 := small_of (by omega) (by omega)
theorem cell_at (ns : List Int) (k : Nat) : r_cell_at [.lst (ns.map D.int), .int k] = .ok (.int (ns.getD k 0)) := by
  have c : runE t0 (.cmp .lt (.var 1) (.bi .len [(.var 0)])) [some (.lst (ns.map D.int), false), some (.int k, false)] = .ok (.bl (decide ((k : Int) < ((ns.map D.int).length : Int))), .sto []) := rfl
  rw [List.length_map] at c
  by_cases h : k < ns.length
  · rw [decide_eq_true (Int.ofNat_lt.mpr h)] at c
    refine fn_rt rfl (by decide) (ss_stop ((run_ift c).trans (ss_rt (is := []) (run_ixI (l := ns) (j := k) rfl rfl ?_))))
    rw [List.getD_eq_getElem?_getD, List.getElem?_eq_getElem h]; rfl
  · rw [decide_eq_false fun z => h (Int.ofNat_lt.mp z)] at c
    refine fn_rt rfl (by decide) ((ss_step ((run_iff c).trans ss_nil0)).trans ?_)
    rw [List.getD_eq_getElem?_getD, List.getElem?_eq_none (by omega)]; rfl
theorem t4_30 : t4.fn 30 = r_cell_at := rfl
theorem t4_33 : t4.fn 33 = r_made := rfl
theorem t4_34 : t4.fn 34 = r_right := rfl
set_option maxHeartbeats 400000 in
theorem law_true (ns : List Int) : r_law [.lst (ns.map D.int)] = .ok (.bl true) := by
  let h := ns.getD 0 0
  let a := ns.getD 1 0 % 10 ^ 60
  let b := ns.getD 2 0 % 97
  obtain ⟨n, hn, n1⟩ : ∃ n : Nat, (n : Int) = 3 + h / 2 % 21 ∧ n ≤ 23 := ⟨(3 + h / 2 % 21).toNat, by omega, by omega⟩
  let cut := cutD ns (some ((3 : Nat) : Int)) (some (n : Int))
  have hcut : cut.length ≤ 20 := Nat.le_trans (cut_len ns 3 n) (by omega)
  let sg := cut.map (· % 10 ^ 60)
  have hsm : ∀ m ∈ sg, small m := fun m hm => by
    obtain ⟨c, _, rfl⟩ := List.mem_map.mp hm
    exact small_mod c
  have hsl : sg.length ≤ 20 := by show (cut.map _).length ≤ 20; rw [List.length_map]; exact hcut
  have ha : small a := small_mod _
  have hb : small b := small_97 _
  let E : O → O → O → O → O → O → O → O → Vi.Env := fun a b c d e f g i => [some (.lst (ns.map D.int), false), a, b, c, d, e, f, g, i]
  let I : Int → O := fun z => some (.int z, true)
  let L : List Int → O := fun l => some (.lst (l.map D.int), true)
  let X : Int → Int → List Int → O := fun a b l => some (.lst (exD a b (l.map D.int)), true)
  have cell : ∀ (k : Nat) (ρ : Vi.Env), runE t4 (.var 0) ρ = .ok (.lst (ns.map D.int), .old) → runE t4 (.call 30 [(.var 0), (.int k)]) ρ = .ok (.int (ns.getD k 0), .sto []) := fun k ρ h => run_call (ds := [.lst (ns.map D.int), .int k]) (run_es1 h (run_es1 (x := .int k) (k := .sto []) (by rw [rE_int]) run_es0)) ((congrFun t4_30 _).trans (cell_at ns k))
  have p60 : ∀ ρ, runE t4 (.bin .pow (.int 10) (.int 60)) ρ = .ok (.int (10 ^ 60), .sto []) := fun ρ => run_bin (x := .int 10) (y := .int 60) (k := .sto []) (k' := .sto []) (by rw [rE_int]) (by rw [rE_int]) (by rw [opD_6, if_pos (by decide)]; rfl)
  have s1 : runS t4 (f_law.body.getD 0 .pass) (E none none none none none none none none) = .nx (E (I h) none none none none none none none) := run_set (k := .sto []) (cell 0 _ rfl) rfl
  have s2 : runS t4 (f_law.body.getD 1 .pass) (E (I h) none none none none none none none) = .nx (E (I h) (I a) none none none none none none) := run_set (k := .sto []) (run_bin (cell 1 _ rfl) (p60 _) (z := .int a) (by rw [opD_5, if_pos (by decide)])) rfl
  have s3 : runS t4 (f_law.body.getD 2 .pass) (E (I h) (I a) none none none none none none) = .nx (E (I h) (I a) (I b) none none none none none) := run_set (k := .sto []) (run_bin (cell 2 _ rfl) (y := .int 97) rfl (z := .int b) (by rw [opD_5, if_pos (by decide)])) rfl
  have s4 : runS t4 (f_law.body.getD 3 .pass) (E (I h) (I a) (I b) none none none none none) = .nx (E (I h) (I a) (I b) (L sg) none none none none) := by
    have hi : runE t4 (.bin .add (.int 3) (.bin .mod (.bin .fdiv (.var 1) (.int 2)) (.int 21))) (E (I h) (I a) (I b) none none none none none) = .ok (.int (n : Int), .sto []) := run_bin (x := .int 3) (y := .int (h / 2 % 21)) (k := .sto []) rfl (run_bin (x := .int (h / 2)) (y := .int 21) (k := .sto []) (run_bin (x := .int h) (y := .int 2) (k := .sto []) (k' := .sto []) rfl rfl (by rw [opD_4, if_pos (by decide)])) rfl (by rw [opD_5, if_pos (by decide)])) (by rw [opD_1, hn])
    have hsl2 : runE t4 (.sl (.var 0) (.int 3) (.bin .add (.int 3) (.bin .mod (.bin .fdiv (.var 1) (.int 2)) (.int 21)))) (E (I h) (I a) (I b) none none none none none) = .ok (.lst (cut.map D.int), .sto []) := run_sl (l := ns) (k := .old) (p := some ((3 : Nat) : Int)) (q := some (n : Int)) rfl (x := .int 3) (k1 := .sto []) rfl hi rfl rfl
    refine run_set (d := .lst (sg.map D.int)) (k := .sto []) ?_ rfl
    have e := run_comp (M := t4) (e := .bin .mod (.var 5) (.bin .pow (.int 10) (.int 60))) (c := .bl true) (tg := [5]) (one := true) (ik := .each) (ρ := E (I h) (I a) (I b) none none none none none) (xs := cut.map D.int) (ys := cut.map fun c => D.int (c % 10 ^ 60)) (b := true) (run_each hsl2 rfl) (by rw [List.length_map]; omega) (compL_all D.int (fun c => D.int (c % 10 ^ 60)) cut fun c hc => ?_)
    · rw [show sg.map D.int = cut.map fun c => D.int (c % 10 ^ 60) from List.map_map]
      exact e
    · exact turnC_t (ρ1 := (inComp (E (I h) (I a) (I b) none none none none none) [5]).set 5 (some (.int c, true))) rfl rfl (run_bin (x := .int c) (k := .sto []) rfl (p60 _) (z := .int (c % 10 ^ 60)) (by rw [opD_5, if_pos (by decide)]))
  have s5 : runS t4 (f_law.body.getD 4 .pass) (E (I h) (I a) (I b) (L sg) none none none none) = .nx (E (I h) (I a) (I b) (L sg) none (L sg) none none) := run_set (k := .sto []) (run_list (l := sg) (k := .sto [4]) rfl) rfl
  have w1 : ∀ x y z, runE t4 (.bin .mod (.var 1) (.int 2)) (E (I h) (I a) (I b) (L sg) none x y z) = .ok (.int (h % 2), .sto []) := fun x y z => run_bin (x := .int h) (y := .int 2) (k := .sto []) (k' := .sto []) rfl rfl (by rw [opD_5, if_pos (by decide)])
  have s6 : runS t4 (f_law.body.getD 5 .pass) (E (I h) (I a) (I b) (L sg) none (L sg) none none) = .nx (E (I h) (I a) (I b) (L sg) none (L sg) (X a b sg) none) := run_set (k := .sto []) (run_call (ds := [.int a, .int b, .lst (sg.map D.int), .int (h % 2)]) (k := .sto [6]) (run_es1 (k := .sto []) (k' := .sto [6]) rfl (run_es1 (k := .sto []) (k' := .sto [6]) rfl (run_es1 (k := .sto [6]) (k' := .sto []) rfl (run_es1 (k := .sto []) (k' := .sto []) (w1 _ _ _) run_es0)))) ((congrFun t4_33 _).trans (made_eq ha hb hsm (by omega) _))) rfl
  have hsm7 : ∀ m ∈ sg ++ [7], small m := fun m hm => by
    rcases List.mem_append.mp hm with z | z
    · exact hsm m z
    · rw [List.mem_singleton.mp z]; exact small_7
  have hl7 : (sg ++ [7]).length ≤ 100 := by rw [List.length_append, List.length_singleton]; exact Nat.le_trans (Nat.add_le_add_right hsl 1) (by decide)
  have c7 : ∀ (i : Nat) (ρ : Vi.Env) (js : List Nat), runE t4 (.var i) ρ = .ok (.lst (sg.map D.int), .sto js) → runE t4 (.bin .add (.var i) (.lst [(.int 7)])) ρ = .ok (.lst ((sg ++ [7]).map D.int), .sto []) := fun i ρ js e => run_cat (l := sg) (r := [7]) e (k' := .sto []) (run_lst (k := .sto []) (run_es1 (k := .sto []) (k' := .sto []) (x := .int 7) (by rw [rE_int]) run_es0) (Nat.le_of_ble_eq_true rfl)) (Nat.le_trans (Nat.add_le_add_right hsl 1) (by decide))
  have s7 : runS t4 (f_law.body.getD 6 .pass) (E (I h) (I a) (I b) (L sg) none (L sg) (X a b sg) none) = .nx (E (I h) (I a) (I b) (L sg) none (L sg) (X a b sg) (X b a (sg ++ [7]))) := by
    have md := made_eq hb ha hsm7 hl7 (1 - h % 2)
    refine run_set (d := .lst (exD b a ((sg ++ [7]).map D.int))) (k := .sto []) ?_ rfl
    refine run_call (ds := [.int b, .int a, .lst ((sg ++ [7]).map D.int), .int (1 - h % 2)]) (k := .sto []) ?_ ?_
    rotate_left
    · exact (congrFun t4_33 _).trans md
    · exact run_es1 (k := .sto []) (k' := .sto []) rfl (run_es1 (k := .sto []) (k' := .sto []) rfl (run_es1 (k := .sto []) (k' := .sto []) (c7 6 _ [6] rfl) (run_es1 (k := .sto []) (k' := .sto []) (run_bin (x := .int 1) (y := .int (h % 2)) (k := .sto []) rfl (w1 _ _ _) (by rw [opD_2])) run_es0)))
  let E7 : O → Vi.Env := fun x => E (I h) (I a) (I b) (L sg) none x (X a b sg) (X b a (sg ++ [7]))
  have s8 : runS t4 (f_law.body.getD 7 .pass) (E7 (L sg)) = .nx (E7 (L sg)) := (run_iff (run_neI (l := sg) (k := .sto [6]) (k' := .sto [4]) rfl rfl)).trans ss_nil0
  have s9 : runS t4 (f_law.body.getD 8 .pass) (E7 (L sg)) = .nx (E7 (some (.lst (sg.map D.int ++ [.int 5]), true))) := run_app (l := sg.map D.int) rfl rfl (by rw [List.length_map]; omega)
  have r1 : ∀ x js, (∃ ds, x = some (ds, true)) → js = ([7, 4] : List Nat) → runE t4 (.call 34 [(.var 7), (.var 2), (.var 3), (.var 4)]) (E7 x) = .ok (.bl true, .sto []) := fun x js hx hj => by
    obtain ⟨ds, rfl⟩ := hx
    exact run_call (ds := [.lst (exD a b (sg.map D.int)), .int a, .int b, .lst (sg.map D.int)]) (k := .sto [7, 4]) rfl ((congrFun t4_34 _).trans (right_eq a b sg))
  have s10 : runS t4 (f_law.body.getD 9 .pass) (E7 (some (.lst (sg.map D.int ++ [.int 5]), true))) = .nx (E7 (some (.lst (sg.map D.int ++ [.int 5]), true))) := by
    have q1 := run_not (r1 (some (.lst (sg.map D.int ++ [.int 5]), true)) [7, 4] ⟨_, rfl⟩ rfl)
    have q2 : runE t4 (.not (.call 34 [(.var 8), (.var 3), (.var 2), (.bin .add (.var 4) (.lst [(.int 7)]))])) (E7 (some (.lst (sg.map D.int ++ [.int 5]), true))) = .ok (.bl false, .sto []) := by
      refine run_not (t := true) (k := .sto []) ?_
      refine run_call (ds := [.lst (exD b a ((sg ++ [7]).map D.int)), .int b, .int a, .lst ((sg ++ [7]).map D.int)]) (k := .sto [8]) ?_ ?_
      rotate_left
      · have md := right_eq b a (sg ++ [7])
        exact (congrFun t4_34 _).trans md
      · exact run_es1 (k := .sto [8]) (k' := .sto []) rfl (run_es1 (k := .sto []) (k' := .sto []) rfl (run_es1 (k := .sto []) (k' := .sto []) rfl (run_es1 (k := .sto []) (k' := .sto []) (c7 4 _ [4] rfl) run_es0)))
    exact (run_iff ((run_or_f q1).trans q2)).trans ss_nil0
  have s11 : runS t4 (f_law.body.getD 10 .pass) (E7 (some (.lst (sg.map D.int ++ [.int 5]), true))) = .nx (E7 (some (.lst [], true))) := rfl
  exact fn_rt rfl (by decide) ((ss_step s1).trans ((ss_step s2).trans ((ss_step s3).trans ((ss_step s4).trans ((ss_step s5).trans ((ss_step s6).trans ((ss_step s7).trans ((ss_step s8).trans ((ss_step s9).trans ((ss_step s10).trans ((ss_step s11).trans (ss_rt (is := []) (r1 _ _ ⟨_, rfl⟩ rfl)))))))))))))
end K19
namespace K19
open PySem PySem.Spec PyProof.Rows L2 Vi K12
open PySem (Str)
theorem bt_len : bootBuiltins "len" = some (.builtin "len") := by decide +kernel
theorem bt_all : bootBuiltins "all" = some (.builtin "all") := by decide +kernel
theorem bt_isinstance : bootBuiltins "isinstance" = some (.builtin "isinstance") := by decide +kernel
theorem bt_int : bootBuiltins "int" = some (.type "int") := by decide +kernel
theorem bt_bool : bootBuiltins "bool" = some (.type "bool") := by decide +kernel
structure Txt (K : PySem.W.Frag) (mg : Str → Option Value) : Prop where
  mlen : mg "len" = none
  mall : mg "all" = none
  mlist : mg "list" = none
  misinstance : mg "isinstance" = none
  mint : mg "int" = none
  mbool : mg "bool" = none
  mstr : mg "str" = none
  mrange : mg "range" = none
section
variable {P : Program} {w : World} {K : PySem.W.Frag} {mg : Str → Option Value} {base : Heap} {g : Str → Addr}
abbrev st_l_cell_at : Stmt := top 18
theorem sc_l_cell_at : FnScope ["_law_script", "_law_k"] ["_law_script", "_law_k"] (defScope st_l_cell_at) := ⟨rfl, rfl, rfl, by decide +kernel, rfl, by decide +kernel, by decide +kernel⟩
theorem ok_l_cell_at {f : Addr} {fd : FuncData} (Fu : Fun K "_law_cell_at" "_law_cell_at" st_l_cell_at f fd) (T : Txt K mg) (Xa : XA K mg g) : FnOk P w K mg base CX0 1 f fd ["_law_script", "_law_k"] (spP (clX g) r_cell_at) :=
  fn_ok (cl := clX g) (M := t0) (fn := f_l_cell_at) (kk := 0) Fu sc_l_cell_at rfl rfl (fun cdv A outer s H E hr ρ => (show GSs (cxOf CX0 P w K mg base _ _ (defScope st_l_cell_at) f cdv A outer s H E).nox (clX g) t0 (defBody st_l_cell_at) f_l_cell_at.body from
  (gss_cons (gs_if (gt_cmp (o := .lt) (hu8 hr) rfl (g_var (i := 1) rfl (Or.inl rfl) rfl rfl) (g_biF (id := "len") (fun ds z h => bi_len h) rfl T.mlen bt_len (by decide +kernel) rfl rfl rfl (ga_cons rfl (g_var (i := 0) rfl (Or.inl rfl) rfl rfl) ga_nil))) (gss_cons (gs_ret (g_ix (fun _ _ => rfl) (g_var (i := 0) rfl (Or.inl rfl) rfl rfl) (g_var (i := 1) rfl (Or.inl rfl) rfl rfl)))
  gss_nil) gss_nil)
  (gss_cons (gs_ret g_int)
  gss_nil))) ρ)
abbrev st_l_whole : Stmt := top 19
theorem sc_l_whole : FnScope ["_law_found"] ["_law_found"] (defScope st_l_whole) := ⟨rfl, rfl, rfl, by decide +kernel, rfl, by decide +kernel, by decide +kernel⟩
theorem ok_l_whole {f : Addr} {fd : FuncData} (Fu : Fun K "_law_whole" "_law_whole" st_l_whole f fd) (T : Txt K mg) (Xa : XA K mg g) : FnOk P w K mg base CX0 1 f fd ["_law_found"] (spP (clX g) r_whole) :=
  fn_ok (cl := clX g) (M := t0) (fn := f_l_whole) (kk := 0) Fu sc_l_whole rfl rfl (fun cdv A outer s H E hr ρ => (show GSs (cxOf CX0 P w K mg base _ _ (defScope st_l_whole) f cdv A outer s H E).nox (clX g) t0 (defBody st_l_whole) f_l_whole.body from
  (gss_cons (gs_ret (g_and (g_isi (T := "int") (isi_int K) rfl T.misinstance bt_isinstance (by decide +kernel) rfl rfl T.mint bt_int (by decide +kernel) rfl rfl rfl rfl (g_var (i := 0) rfl (Or.inl rfl) rfl rfl)) (g_one (g_not (g_isi (T := "bool") (isi_bool K) rfl T.misinstance bt_isinstance (by decide +kernel) rfl rfl T.mbool bt_bool (by decide +kernel) rfl rfl rfl rfl (g_var (i := 0) rfl (Or.inl rfl) rfl rfl))))))
  gss_nil)) ρ)
abbrev st_l_classes : Stmt := top 20
theorem sc_l_classes : FnScope ["_law_e", "_law_some", "_law_k"] ["_law_e"] (defScope st_l_classes) := ⟨rfl, rfl, rfl, by decide +kernel, rfl, by decide +kernel, by decide +kernel⟩
theorem ok_l_classes {f : Addr} {fd : FuncData} (Fu : Fun K "_law_classes" "_law_classes" st_l_classes f fd) (T : Txt K mg) (Xa : XA K mg g) : FnOk P w K mg base CX0 1 f fd ["_law_e"] (spP (clX g) r_classes) :=
  fn_ok (cl := clX g) (M := t1) (fn := f_l_classes) (kk := 0) Fu sc_l_classes rfl rfl (fun cdv A outer s H E hr ρ => (show GSs (cxOf CX0 P w K mg base _ _ (defScope st_l_classes) f cdv A outer s H E).nox (clX g) t1 (defBody st_l_classes) f_l_classes.body from
  (gss_cons (gs_set (i := 1) sc_l_classes.nd rfl (Or.inr rfl) rfl (Or.inl rfl) (g_lst (ga_cons rfl (g_isE (b := bk 0) rfl rfl (Xa.nm "NoRow" (by decide)) T.misinstance rfl (Xa.is 0) bt_isinstance rfl rfl rfl rfl (g_var (i := 0) rfl (Or.inl rfl) rfl rfl)) (ga_cons rfl (g_isE (b := bk 1) rfl rfl (Xa.nm "Twice" (by decide)) T.misinstance rfl (Xa.is 1) bt_isinstance rfl rfl rfl rfl (g_var (i := 0) rfl (Or.inl rfl) rfl rfl)) (ga_cons rfl (g_isE (b := bk 2) rfl rfl (Xa.nm "NoPair" (by decide)) T.misinstance rfl (Xa.is 2) bt_isinstance rfl rfl rfl rfl (g_var (i := 0) rfl (Or.inl rfl) rfl rfl)) (ga_cons rfl (g_isE (b := bk 3) rfl rfl (Xa.nm "Same" (by decide)) T.misinstance rfl (Xa.is 3) bt_isinstance rfl rfl rfl rfl (g_var (i := 0) rfl (Or.inl rfl) rfl rfl)) ga_nil))))))
  (gss_cons (gs_set (i := 1) sc_l_classes.nd rfl (Or.inr rfl) rfl (Or.inl rfl) (g_bin (op := .add) (g_var (i := 1) rfl (Or.inr (Or.inl rfl)) rfl rfl) (g_lst (ga_cons rfl (g_isE (b := bk 4) rfl rfl (Xa.nm "Ring" (by decide)) T.misinstance rfl (Xa.is 4) bt_isinstance rfl rfl rfl rfl (g_var (i := 0) rfl (Or.inl rfl) rfl rfl)) (ga_cons rfl (g_isE (b := bk 5) rfl rfl (Xa.nm "TooLong" (by decide)) T.misinstance rfl (Xa.is 5) bt_isinstance rfl rfl rfl rfl (g_var (i := 0) rfl (Or.inl rfl) rfl rfl)) (ga_cons rfl (g_isE (b := bk 6) rfl rfl (Xa.nm "NoStep" (by decide)) T.misinstance rfl (Xa.is 6) bt_isinstance rfl rfl rfl rfl (g_var (i := 0) rfl (Or.inl rfl) rfl rfl)) (ga_cons rfl (g_isE (b := bk 7) rfl rfl (Xa.nm "Unlike" (by decide)) T.misinstance rfl (Xa.is 7) bt_isinstance rfl rfl rfl rfl (g_var (i := 0) rfl (Or.inl rfl) rfl rfl)) ga_nil)))))))
  (gss_cons (gs_set (i := 1) sc_l_classes.nd rfl (Or.inr rfl) rfl (Or.inl rfl) (g_bin (op := .add) (g_var (i := 1) rfl (Or.inr (Or.inl rfl)) rfl rfl) (g_lst (ga_cons rfl (g_isE (b := bk 8) rfl rfl (Xa.nm "TooMany" (by decide)) T.misinstance rfl (Xa.is 8) bt_isinstance rfl rfl rfl rfl (g_var (i := 0) rfl (Or.inl rfl) rfl rfl)) (ga_cons rfl (g_isE (b := bk 9) rfl rfl (Xa.nm "NotFormed" (by decide)) T.misinstance rfl (Xa.is 9) bt_isinstance rfl rfl rfl rfl (g_var (i := 0) rfl (Or.inl rfl) rfl rfl)) (ga_cons rfl (g_isE (b := bk 10) rfl rfl (Xa.nm "Double" (by decide)) T.misinstance rfl (Xa.is 10) bt_isinstance rfl rfl rfl rfl (g_var (i := 0) rfl (Or.inl rfl) rfl rfl)) (ga_cons rfl (g_isE (b := bk 11) rfl rfl (Xa.nm "NoKind" (by decide)) T.misinstance rfl (Xa.is 11) bt_isinstance rfl rfl rfl rfl (g_var (i := 0) rfl (Or.inl rfl) rfl rfl)) ga_nil)))))))
  (gss_cons (gs_set (i := 1) sc_l_classes.nd rfl (Or.inr rfl) rfl (Or.inl rfl) (g_bin (op := .add) (g_var (i := 1) rfl (Or.inr (Or.inl rfl)) rfl rfl) (g_lst (ga_cons rfl (g_isE (b := bk 12) rfl rfl (Xa.nm "Nothing" (by decide)) T.misinstance rfl (Xa.is 12) bt_isinstance rfl rfl rfl rfl (g_var (i := 0) rfl (Or.inl rfl) rfl rfl)) (ga_cons rfl (g_isE (b := bk 13) rfl rfl (Xa.nm "NoPlace" (by decide)) T.misinstance rfl (Xa.is 13) bt_isinstance rfl rfl rfl rfl (g_var (i := 0) rfl (Or.inl rfl) rfl rfl)) (ga_cons rfl (g_isE (b := bk 14) rfl rfl (Xa.nm "NoUndo" (by decide)) T.misinstance rfl (Xa.is 14) bt_isinstance rfl rfl rfl rfl (g_var (i := 0) rfl (Or.inl rfl) rfl rfl)) ga_nil))))))
  (gss_cons (gs_ret (g_bin (op := .add) (g_comp rfl (compSc_of rfl (by kernel_rfl)) (how_of (by kernel_rfl)) (fun _ => rfl) (gi_range1 rfl T.mrange rfl (ga_cons rfl g_int ga_nil)) (fun X0 hX0 => by obtain ⟨C0, fp0, pins0, s0, H0, rfl⟩ := hX0; exact (pg_name (i := 2) sc_l_classes.nd rfl (Or.inl rfl))) bind_one (Or.inr ⟨_, rfl, fun X0 hX0 => by obtain ⟨C0, fp0, pins0, s0, H0, rfl⟩ := hX0; exact (gt_plain (g_ix (fun _ _ => rfl) (g_var (i := 1) rfl (Or.inr (Or.inl rfl)) rfl rfl) (g_var (i := 2) rfl (Or.inl rfl) rfl rfl)) (fun _ => rfl))⟩) (fun X0 hX0 => by obtain ⟨C0, fp0, pins0, s0, H0, rfl⟩ := hX0; exact (g_var (i := 2) rfl (Or.inl rfl) rfl rfl))) (g_bin (op := .mul) (g_lst (ga_cons rfl g_int ga_nil)) (g_intB rfl T.mint bt_int (by decide +kernel) rfl rfl rfl (g_isT (b := fun _ => true) rfl rfl Xa.ve bt_ve T.misinstance rfl Xa.isV bt_isinstance rfl (by decide) rfl rfl rfl (g_var (i := 0) rfl (Or.inl rfl) rfl rfl))))))
  gss_nil)))))) ρ)
abbrev st_l_made : Stmt := top 21
theorem sc_l_made : FnScope ["_law_one", "_law_other", "_law_signs", "_law_way", "_law_some"] ["_law_one", "_law_other", "_law_signs", "_law_way"] (defScope st_l_made) := ⟨rfl, rfl, rfl, by decide +kernel, rfl, by decide +kernel, by decide +kernel⟩
theorem ok_l_made {f : Addr} {fd : FuncData} (Fu : Fun K "_law_made" "_law_made" st_l_made f fd) (T : Txt K mg) (Xa : XA K mg g) (L_NoRow : NewI P w K mg base "NoRow" "at" (g "NoRow")) (L_Twice : NewI P w K mg base "Twice" "sign" (g "Twice")) (L_NoPair : NewI P w K mg base "NoPair" "sign" (g "NoPair")) (L_Same : NewII P w K mg base "Same" "one" "other" (g "Same")) (L_Ring : NewR P w K mg base "Ring" "signs" (g "Ring")) (L_TooLong : NewI P w K mg base "TooLong" "sign" (g "TooLong")) (L_Unlike : NewI P w K mg base "Unlike" "at" (g "Unlike")) (L_NotFormed : NewI P w K mg base "NotFormed" "which" (g "NotFormed")) (L_Double : NewI P w K mg base "Double" "at" (g "Double")) (L_NoKind : NewI P w K mg base "NoKind" "at" (g "NoKind")) : FnOk P w K mg base CX0 6 f fd ["_law_one", "_law_other", "_law_signs", "_law_way"] (spP (clX g) r_made) :=
  fn_okX (cl := clX g) (f0 := wM t2) (kk := 5) Fu sc_l_made rfl rfl (fun cdv A outer s H E hr => 
  have q3 : ∀ ρ, PS (cxOf CX0 P w K mg base ["_law_one", "_law_other", "_law_signs", "_law_way", "_law_some"] "_law_made" (defScope st_l_made) f cdv A outer s H E).nox ((defBody st_l_made).getD 3 (.Pass ⟨0, 0, 0, 0⟩)) (tSd (clX g) ρ ([] ++ []) (ifF t2 (.cmp .eq (.var 3) (.int 0)) (retCat t2 4 m3) (fun ρ => runSs t2 [] ρ) ρ)) := by
    refine gx_ifF (gt_cmp (o := .eq) (hu8 hr) rfl (g_var (i := 3) rfl (Or.inl rfl) rfl rfl) g_int) (fun ρ => ?_) gss_nil
    refine pss_one ?_
    refine gx_retCat (i := 4) ?_ ?_ ρ
    · exact (g_var (i := 4) rfl (Or.inl rfl) rfl rfl)
    · exact (ga_cons rfl (g_newP (c := 12) rfl rfl rfl (Xa.nm "Nothing" (by decide)) (Xa.kp "Nothing" (by decide)) (Xa.pl "Nothing" (by decide)) PySem.F.excBase_ValueError (by decide +kernel) PySem.F.excBase_ValueError rfl rfl rfl g_str) (ga_cons rfl (g_newP0 (c := 13) rfl rfl rfl (Xa.nm "NoPlace" (by decide)) (Xa.kp "NoPlace" (by decide)) (Xa.pl "NoPlace" (by decide)) PySem.F.excBase_ValueError (by decide +kernel) PySem.F.excBase_ValueError rfl) (ga_cons rfl (g_newP (c := 14) rfl rfl rfl (Xa.nm "NoUndo" (by decide)) (Xa.kp "NoUndo" (by decide)) (Xa.pl "NoUndo" (by decide)) PySem.F.excBase_ValueError (by decide +kernel) PySem.F.excBase_ValueError rfl rfl rfl g_str) ga_nil)))
  have q4 : ∀ ρ, PSs (cxOf CX0 P w K mg base ["_law_one", "_law_other", "_law_signs", "_law_way", "_law_some"] "_law_made" (defScope st_l_made) f cdv A outer s H E).nox ((defBody st_l_made).drop 4) (tSd (clX g) ρ [] (retCat t2 4 m4 ρ)) := by
    intro ρ
    refine pss_one ?_
    refine gx_retCat (i := 4) ?_ ?_ ρ
    · exact (g_var (i := 4) rfl (Or.inl rfl) rfl rfl)
    · exact (ga_cons rfl (g_newP0 (c := 12) rfl rfl rfl (Xa.nm "Nothing" (by decide)) (Xa.kp "Nothing" (by decide)) (Xa.pl "Nothing" (by decide)) PySem.F.excBase_ValueError (by decide +kernel) PySem.F.excBase_ValueError rfl) (ga_cons rfl (g_newP (c := 13) rfl rfl rfl (Xa.nm "NoPlace" (by decide)) (Xa.kp "NoPlace" (by decide)) (Xa.pl "NoPlace" (by decide)) PySem.F.excBase_ValueError (by decide +kernel) PySem.F.excBase_ValueError rfl rfl rfl g_str) (ga_cons rfl (g_newP0 (c := 14) rfl rfl rfl (Xa.nm "NoUndo" (by decide)) (Xa.kp "NoUndo" (by decide)) (Xa.pl "NoUndo" (by decide)) PySem.F.excBase_ValueError (by decide +kernel) PySem.F.excBase_ValueError rfl) ga_nil)))
  (gy_cons (gs_set (i := 4) sc_l_made.nd rfl (Or.inl rfl) rfl (Or.inl rfl) (g_lst (ga_cons rfl (g_newIL (c := 0) L_NoRow rfl rfl rfl hr (by decide) rfl rfl rfl (g_var (i := 0) rfl (Or.inl rfl) rfl rfl)) (ga_cons rfl (g_newIL (c := 1) L_Twice rfl rfl rfl hr (by decide) rfl rfl rfl (g_var (i := 1) rfl (Or.inl rfl) rfl rfl)) (ga_cons rfl (g_newIL (c := 2) L_NoPair rfl rfl rfl hr (by decide) rfl rfl rfl (g_var (i := 0) rfl (Or.inl rfl) rfl rfl)) (ga_cons rfl (g_newIIL (c := 3) L_Same rfl rfl rfl hr (by decide) rfl rfl rfl rfl (g_var (i := 0) rfl (Or.inl rfl) rfl rfl) (g_var (i := 1) rfl (Or.inl rfl) rfl rfl)) (ga_cons rfl (g_newRL (c := 4) L_Ring rfl rfl rfl hr (by decide) rfl rfl rfl (g_var (i := 2) rfl (Or.inl rfl) rfl rfl)) (ga_cons rfl (g_newIL (c := 5) L_TooLong rfl rfl rfl hr (by decide) rfl rfl rfl (g_var (i := 1) rfl (Or.inl rfl) rfl rfl)) ga_nil))))))))
  (gy_cons (gs_if (gt_cmp (o := .eq) (hu8 hr) rfl (g_var (i := 3) rfl (Or.inl rfl) rfl rfl) g_int) (gss_cons (gs_app (fun h => ps_expr (pe_bm PySem.F.plainAttrs_list PySem.F.slot_list_append PySem.F.type_list_append mt_append (pe_var (i := 4) rfl (Or.inl rfl)) (pa_cons h pa_nil))) (g_newP0 (c := 6) rfl rfl rfl (Xa.nm "NoStep" (by decide)) (Xa.kp "NoStep" (by decide)) (Xa.pl "NoStep" (by decide)) PySem.F.excBase_ValueError (by decide +kernel) PySem.F.excBase_ValueError rfl))
  gss_nil) (gss_cons (gs_app (fun h => ps_expr (pe_bm PySem.F.plainAttrs_list PySem.F.slot_list_append PySem.F.type_list_append mt_append (pe_var (i := 4) rfl (Or.inl rfl)) (pa_cons h pa_nil))) (g_newP (c := 6) rfl rfl rfl (Xa.nm "NoStep" (by decide)) (Xa.kp "NoStep" (by decide)) (Xa.pl "NoStep" (by decide)) PySem.F.excBase_ValueError (by decide +kernel) PySem.F.excBase_ValueError rfl rfl rfl g_str))
  gss_nil))
  (gy_seq (gx_catS (M := t2) (i := 4) sc_l_made.nd rfl (Or.inl rfl) rfl (Or.inl rfl) (g_var (i := 4) rfl (Or.inl rfl) rfl rfl) (ga_cons rfl (g_newIL (c := 7) L_Unlike rfl rfl rfl hr (by decide) rfl rfl rfl (g_var (i := 0) rfl (Or.inl rfl) rfl rfl)) (ga_cons rfl (g_newP (c := 8) rfl rfl rfl (Xa.nm "TooMany" (by decide)) (Xa.kp "TooMany" (by decide)) (Xa.pl "TooMany" (by decide)) PySem.F.excBase_ValueError (by decide +kernel) PySem.F.excBase_ValueError rfl rfl rfl g_str) (ga_cons rfl (g_newIL (c := 9) L_NotFormed rfl rfl rfl hr (by decide) rfl rfl rfl (g_var (i := 1) rfl (Or.inl rfl) rfl rfl)) (ga_cons rfl (g_newIL (c := 10) L_Double rfl rfl rfl hr (by decide) rfl rfl rfl (g_var (i := 0) rfl (Or.inl rfl) rfl rfl)) (ga_cons rfl (g_newIL (c := 11) L_NoKind rfl rfl rfl hr (by decide) rfl rfl rfl (g_var (i := 1) rfl (Or.inl rfl) rfl rfl)) ga_nil)))))) (gy_seq q3 q4)))))
abbrev st_l_right : Stmt := top 22
theorem sc_l_right : FnScope ["_law_some", "_law_one", "_law_other", "_law_signs", "_law_k", "_law_fields", "_law_field", "_law_due"] ["_law_some", "_law_one", "_law_other", "_law_signs"] (defScope st_l_right) := ⟨rfl, rfl, rfl, by decide +kernel, rfl, by decide +kernel, by decide +kernel⟩
theorem ok_l_right {f : Addr} {fd : FuncData} (Fu : Fun K "_law_right" "_law_right" st_l_right f fd) (T : Txt K mg) (Xa : XA K mg g) (L_l_classes : Lnk P w K mg base (clX g) "_law_classes" 1 ["_law_e"] r_classes) (L_l_whole : Lnk P w K mg base (clX g) "_law_whole" 1 ["_law_found"] r_whole) : FnOk P w K mg base CX0 2 f fd ["_law_some", "_law_one", "_law_other", "_law_signs"] (spP (clX g) r_right) :=
  fn_ok (cl := clX g) (M := t3) (fn := f_l_right) (kk := 1) Fu sc_l_right rfl rfl (fun cdv A outer s H E hr ρ => (show GSs (cxOf CX0 P w K mg base _ _ (defScope st_l_right) f cdv A outer s H E).nox (clX g) t3 (defBody st_l_right) f_l_right.body from
  (gss_cons (gs_for PassesOwn.never rfl (fun _ => rfl) (gi_range1 rfl T.mrange rfl (ga_cons rfl g_int ga_nil)) (pg_name (i := 4) sc_l_right.nd rfl (Or.inl rfl)) bind_one (gss_cons (gs_if (gw_pt (gw_or (gt_not (gt_plain (g_isE (b := fun _ => true) rfl rfl Xa.fe T.misinstance rfl Xa.isF bt_isinstance rfl rfl rfl rfl (g_ix (fun _ _ => rfl) (g_var (i := 0) rfl (Or.inl rfl) rfl rfl) (g_var (i := 4) rfl (Or.inl rfl) rfl rfl))) (fun _ => rfl))) (gw_or1 (gt_cmp (o := .ne) (hu8 hr) rfl (g_callL L_l_classes hr (by decide) rfl rfl rfl rfl (ga_cons rfl (g_ix (fun _ _ => rfl) (g_var (i := 0) rfl (Or.inl rfl) rfl rfl) (g_var (i := 4) rfl (Or.inl rfl) rfl rfl)) ga_nil)) (g_lst (ga_cons rfl (g_var (i := 4) rfl (Or.inl rfl) rfl rfl) (ga_cons rfl g_int ga_nil))))))) (gss_cons (gs_ret g_bl)
  gss_nil) gss_nil)
  gss_nil))
  (gss_cons (gs_set (i := 5) sc_l_right.nd rfl (Or.inl rfl) rfl (Or.inl rfl) (g_lst (ga_cons rfl (g_fld rfl (Xa.xg "at" (by decide)) (g_ix (fun _ _ => rfl) (g_var (i := 0) rfl (Or.inl rfl) rfl rfl) g_int)) (ga_cons rfl (g_fld rfl (Xa.xg "sign" (by decide)) (g_ix (fun _ _ => rfl) (g_var (i := 0) rfl (Or.inl rfl) rfl rfl) g_int)) (ga_cons rfl (g_fld rfl (Xa.xg "sign" (by decide)) (g_ix (fun _ _ => rfl) (g_var (i := 0) rfl (Or.inl rfl) rfl rfl) g_int)) (ga_cons rfl (g_fld rfl (Xa.xg "one" (by decide)) (g_ix (fun _ _ => rfl) (g_var (i := 0) rfl (Or.inl rfl) rfl rfl) g_int)) ga_nil))))))
  (gss_cons (gs_set (i := 5) sc_l_right.nd rfl (Or.inl rfl) rfl (Or.inl rfl) (g_bin (op := .add) (g_var (i := 5) rfl (Or.inl rfl) rfl rfl) (g_lst (ga_cons rfl (g_fld rfl (Xa.xg "other" (by decide)) (g_ix (fun _ _ => rfl) (g_var (i := 0) rfl (Or.inl rfl) rfl rfl) g_int)) (ga_cons rfl (g_fld rfl (Xa.xg "sign" (by decide)) (g_ix (fun _ _ => rfl) (g_var (i := 0) rfl (Or.inl rfl) rfl rfl) g_int)) (ga_cons rfl (g_fld rfl (Xa.xg "at" (by decide)) (g_ix (fun _ _ => rfl) (g_var (i := 0) rfl (Or.inl rfl) rfl rfl) g_int)) ga_nil))))))
  (gss_cons (gs_set (i := 5) sc_l_right.nd rfl (Or.inl rfl) rfl (Or.inl rfl) (g_bin (op := .add) (g_var (i := 5) rfl (Or.inl rfl) rfl rfl) (g_lst (ga_cons rfl (g_fld rfl (Xa.xg "which" (by decide)) (g_ix (fun _ _ => rfl) (g_var (i := 0) rfl (Or.inl rfl) rfl rfl) g_int)) (ga_cons rfl (g_fld rfl (Xa.xg "at" (by decide)) (g_ix (fun _ _ => rfl) (g_var (i := 0) rfl (Or.inl rfl) rfl rfl) g_int)) (ga_cons rfl (g_fld rfl (Xa.xg "at" (by decide)) (g_ix (fun _ _ => rfl) (g_var (i := 0) rfl (Or.inl rfl) rfl rfl) g_int)) ga_nil))))))
  (gss_cons (gs_if (gw_pt (gw_or (gt_not (gt_plain (g_biF (id := "all") (fun ds z h => bi_all rfl h) rfl T.mall bt_all (by decide +kernel) rfl rfl rfl (ga_cons rfl (g_comp rfl (compSc_of rfl (by kernel_rfl)) (how_of (by kernel_rfl)) (fun _ => rfl) (gi_each (g_var (i := 5) rfl (Or.inl rfl) rfl rfl)) (fun X0 hX0 => by obtain ⟨C0, fp0, pins0, s0, H0, rfl⟩ := hX0; exact (pg_name (i := 6) sc_l_right.nd rfl (Or.inl rfl))) bind_one (Or.inl ⟨rfl, rfl⟩) (fun X0 hX0 => by obtain ⟨C0, fp0, pins0, s0, H0, rfl⟩ := hX0; exact (g_callL L_l_whole hr (by decide) rfl rfl rfl rfl (ga_cons rfl (g_var (i := 6) rfl (Or.inl rfl) rfl rfl) ga_nil)))) ga_nil)) (fun _ => rfl))) (gw_or1 (gt_not (gt_plain (g_isi (T := "list") (isi_list K) rfl T.misinstance bt_isinstance (by decide +kernel) rfl rfl T.mlist bt_list (by decide +kernel) rfl rfl rfl rfl (g_fld rfl (Xa.xg "signs" (by decide)) (g_ix (fun _ _ => rfl) (g_var (i := 0) rfl (Or.inl rfl) rfl rfl) g_int))) (fun _ => rfl)))))) (gss_cons (gs_ret g_bl)
  gss_nil) gss_nil)
  (gss_cons (gs_set (i := 7) sc_l_right.nd rfl (Or.inl rfl) rfl (Or.inl rfl) (g_lst (ga_cons rfl (g_var (i := 1) rfl (Or.inl rfl) rfl rfl) (ga_cons rfl (g_var (i := 2) rfl (Or.inl rfl) rfl rfl) (ga_cons rfl (g_var (i := 1) rfl (Or.inl rfl) rfl rfl) (ga_cons rfl (g_var (i := 1) rfl (Or.inl rfl) rfl rfl) (ga_cons rfl (g_var (i := 2) rfl (Or.inl rfl) rfl rfl) (ga_cons rfl (g_var (i := 2) rfl (Or.inl rfl) rfl rfl) (ga_cons rfl (g_var (i := 1) rfl (Or.inl rfl) rfl rfl) ga_nil)))))))))
  (gss_cons (gs_set (i := 7) sc_l_right.nd rfl (Or.inl rfl) rfl (Or.inl rfl) (g_bin (op := .add) (g_var (i := 7) rfl (Or.inl rfl) rfl rfl) (g_lst (ga_cons rfl (g_var (i := 2) rfl (Or.inl rfl) rfl rfl) (ga_cons rfl (g_var (i := 1) rfl (Or.inl rfl) rfl rfl) (ga_cons rfl (g_var (i := 2) rfl (Or.inl rfl) rfl rfl) ga_nil))))))
  (gss_cons (gs_ret (g_and (g_cmpE (o := .eq) (hu8 hr) rfl (g_var (i := 5) rfl (Or.inl rfl) rfl rfl) (g_var (i := 7) rfl (Or.inl rfl) rfl rfl)) (g_one (g_cmpE (o := .eq) (hu8 hr) rfl (g_fld rfl (Xa.xg "signs" (by decide)) (g_ix (fun _ _ => rfl) (g_var (i := 0) rfl (Or.inl rfl) rfl rfl) g_int)) (g_var (i := 3) rfl (Or.inl rfl) rfl rfl)))))
  gss_nil))))))))) ρ)
abbrev st_law : Stmt := top 23
theorem sc_law : FnScope ["_law_script", "_law_head", "_law_one", "_law_other", "_law_signs", "_law_cell", "_law_handed", "_law_some", "_law_again"] ["_law_script"] (defScope st_law) := ⟨rfl, rfl, rfl, by decide +kernel, rfl, by decide +kernel, by decide +kernel⟩
theorem ok_law {f : Addr} {fd : FuncData} (Fu : Fun K "law" "law" st_law f fd) (T : Txt K mg) (Xa : XA K mg g) (L_l_cell_at : Lnk P w K mg base (clX g) "_law_cell_at" 1 ["_law_script", "_law_k"] r_cell_at) (L_l_made : Lnk P w K mg base (clX g) "_law_made" 6 ["_law_one", "_law_other", "_law_signs", "_law_way"] r_made) (L_l_right : Lnk P w K mg base (clX g) "_law_right" 2 ["_law_some", "_law_one", "_law_other", "_law_signs"] r_right) : FnOk P w K mg base CX0 7 f fd ["_law_script"] (spP (clX g) r_law) :=
  fn_ok (cl := clX g) (M := t4) (fn := f_law) (kk := 6) Fu sc_law rfl rfl (fun cdv A outer s H E hr ρ => (show GSs (cxOf CX0 P w K mg base _ _ (defScope st_law) f cdv A outer s H E).nox (clX g) t4 (defBody st_law) f_law.body from
  (gss_cons (gs_set (i := 1) sc_law.nd rfl (Or.inl rfl) rfl (Or.inl rfl) (g_callL L_l_cell_at hr (by decide) rfl rfl rfl rfl (ga_cons rfl (g_var (i := 0) rfl (Or.inl rfl) rfl rfl) (ga_cons rfl g_int ga_nil))))
  (gss_cons (gs_set (i := 2) sc_law.nd rfl (Or.inl rfl) rfl (Or.inl rfl) (g_bin (op := .mod) (g_callL L_l_cell_at hr (by decide) rfl rfl rfl rfl (ga_cons rfl (g_var (i := 0) rfl (Or.inl rfl) rfl rfl) (ga_cons rfl g_int ga_nil))) (g_bin (op := .pow) g_int g_int)))
  (gss_cons (gs_set (i := 3) sc_law.nd rfl (Or.inl rfl) rfl (Or.inl rfl) (g_bin (op := .mod) (g_callL L_l_cell_at hr (by decide) rfl rfl rfl rfl (ga_cons rfl (g_var (i := 0) rfl (Or.inl rfl) rfl rfl) (ga_cons rfl g_int ga_nil))) g_int))
  (gss_cons (gs_setComp rfl sc_law.nd rfl (Or.inl rfl) (compSc_of rfl (by kernel_rfl)) (how_of (by kernel_rfl)) (fun _ => rfl) rfl (Or.inl rfl) (gi_each (g_sl (g_var (i := 0) rfl (Or.inl rfl) rfl rfl) (go_some g_int rfl) (go_some (g_bin (op := .add) g_int (g_bin (op := .mod) (g_bin (op := .fdiv) (g_var (i := 1) rfl (Or.inl rfl) rfl rfl) g_int) g_int)) rfl))) (fun X0 hX0 => by obtain ⟨C0, fp0, pins0, s0, H0, rfl⟩ := hX0; exact (pg_name (i := 5) sc_law.nd rfl (Or.inl rfl))) bind_one (Or.inl ⟨rfl, rfl⟩) (fun X0 hX0 => by obtain ⟨C0, fp0, pins0, s0, H0, rfl⟩ := hX0; exact (g_bin (op := .mod) (g_var (i := 5) rfl (Or.inl rfl) rfl rfl) (g_bin (op := .pow) g_int g_int))))
  (gss_cons (gs_set (i := 6) sc_law.nd rfl (Or.inl rfl) rfl (Or.inl rfl) (g_biT (id := "list") (fun ds z h => bi_list h) rfl T.mlist bt_list (by decide +kernel) rfl rfl rfl (ga_cons rfl (g_var (i := 4) rfl (Or.inl rfl) rfl rfl) ga_nil)))
  (gss_cons (gs_set (i := 7) sc_law.nd rfl (Or.inl rfl) rfl (Or.inl rfl) (g_callL L_l_made hr (by decide) rfl rfl rfl rfl (ga_cons rfl (g_var (i := 2) rfl (Or.inl rfl) rfl rfl) (ga_cons rfl (g_var (i := 3) rfl (Or.inl rfl) rfl rfl) (ga_cons rfl (g_var (i := 6) rfl (Or.inl rfl) rfl rfl) (ga_cons rfl (g_bin (op := .mod) (g_var (i := 1) rfl (Or.inl rfl) rfl rfl) g_int) ga_nil))))))
  (gss_cons (gs_set (i := 8) sc_law.nd rfl (Or.inl rfl) rfl (Or.inl rfl) (g_callL L_l_made hr (by decide) rfl rfl rfl rfl (ga_cons rfl (g_var (i := 3) rfl (Or.inl rfl) rfl rfl) (ga_cons rfl (g_var (i := 2) rfl (Or.inl rfl) rfl rfl) (ga_cons rfl (g_bin (op := .add) (g_var (i := 6) rfl (Or.inl rfl) rfl rfl) (g_lst (ga_cons rfl g_int ga_nil))) (ga_cons rfl (g_bin (op := .sub) g_int (g_bin (op := .mod) (g_var (i := 1) rfl (Or.inl rfl) rfl rfl) g_int)) ga_nil))))))
  (gss_cons (gs_if (gt_cmp (o := .ne) (hu8 hr) rfl (g_var (i := 6) rfl (Or.inl rfl) rfl rfl) (g_var (i := 4) rfl (Or.inl rfl) rfl rfl)) (gss_cons (gs_ret g_bl)
  gss_nil) gss_nil)
  (gss_cons (gs_app (fun h => ps_expr (pe_bm PySem.F.plainAttrs_list PySem.F.slot_list_append PySem.F.type_list_append mt_append (pe_var (i := 6) rfl (Or.inl rfl)) (pa_cons h pa_nil))) g_int)
  (gss_cons (gs_if (gw_pt (gw_or (gt_not (gt_plain (g_callL L_l_right hr (by decide) rfl rfl rfl rfl (ga_cons rfl (g_var (i := 7) rfl (Or.inl rfl) rfl rfl) (ga_cons rfl (g_var (i := 2) rfl (Or.inl rfl) rfl rfl) (ga_cons rfl (g_var (i := 3) rfl (Or.inl rfl) rfl rfl) (ga_cons rfl (g_var (i := 4) rfl (Or.inl rfl) rfl rfl) ga_nil))))) (fun _ => rfl))) (gw_or1 (gt_not (gt_plain (g_callL L_l_right hr (by decide) rfl rfl rfl rfl (ga_cons rfl (g_var (i := 8) rfl (Or.inl rfl) rfl rfl) (ga_cons rfl (g_var (i := 3) rfl (Or.inl rfl) rfl rfl) (ga_cons rfl (g_var (i := 2) rfl (Or.inl rfl) rfl rfl) (ga_cons rfl (g_bin (op := .add) (g_var (i := 4) rfl (Or.inl rfl) rfl rfl) (g_lst (ga_cons rfl g_int ga_nil))) ga_nil))))) (fun _ => rfl)))))) (gss_cons (gs_ret g_bl)
  gss_nil) gss_nil)
  (gss_cons (gs_clr (ps_expr (pe_bm0 PySem.F.plainAttrs_list PySem.F.slot_list_clear PySem.F.type_list_clear mt_clear (pe_var (i := 6) rfl (Or.inl rfl)))))
  (gss_cons (gs_ret (g_callL L_l_right hr (by decide) rfl rfl rfl rfl (ga_cons rfl (g_var (i := 7) rfl (Or.inl rfl) rfl rfl) (ga_cons rfl (g_var (i := 2) rfl (Or.inl rfl) rfl rfl) (ga_cons rfl (g_var (i := 3) rfl (Or.inl rfl) rfl rfl) (ga_cons rfl (g_var (i := 4) rfl (Or.inl rfl) rfl rfl) ga_nil))))))
  gss_nil))))))))))))) ρ)
end
end K19
namespace Hd
open PySem PySem.W PySem.Spec PyProof.Rows L2
open PySem (Str)
structure AskX where
  a : Ask
  xs : Frag → Bool
structure AskX.Good (A : AskX) (K : Frag) : Prop where
  g : A.a.Good K
  x : A.xs K = true
def AskX.hook (A : AskX) : Hook where
  α := Bool × List (Option FuncData)
  obs s := (A.a.flags (frag s.heap) && A.xs (frag s.heap), A.a.ents.map (·.look (frag s.heap)))
  val _ := (true, A.a.ents.map fun e => some e.exp)
  says _ h := ∃ K : Frag, K.In h ∧ A.Good K
  of _ s h := ⟨frag s.heap, frag_in _, ⟨frag_nolst _, (Bool.and_eq_true_iff.mp (congrArg Prod.fst h)).1, congrArg Prod.snd h⟩, (Bool.and_eq_true_iff.mp (congrArg Prod.fst h)).2⟩
  keeps _ _ _ := fun ⟨K, i, g⟩ k => ⟨K, i.keeps k, g⟩
theorem walk_ofX {l : OpenLaw} {n k : Nat} {q : Program} {loose : List Str} {XP : (Str → Option Value) → Heap → Prop} {A : AskX} {d : DefRec} {sp : Frag → Sp} {x : Str}
    (hn : l.most = some n) (hn2 : n ≤ sizeLine) (hdf : d.params.defaults = []) (hr : Room k callerA)
    (F : ∀ (w : World) (K : Frag) (mg : Str → Option Value) (fa : Addr) (h : Heap), A.Good K → K.In h → h.Ns mainGlobals mg → mg d.name = some (.ref fa) →
      ∃ fd : FuncData, (∀ (s : Shared) (u : Value), BindsTo s fd ⟨[u], []⟩ [(x, u)]) ∧
        ∀ base : Heap, K.In base → base.Ns mainGlobals mg → FnOk l.prog w K mg base CX0 k fa fd [x] (sp K))
    (hsp : ∀ (K : Frag) (H : Hp) (a : Addr) (ns : List Int), A.Good K → ns.length ≤ n → Only H → SqL K H a (ns.map V.int) → sp K [.ref a] H (fun v _ => v = .bl true) fun _ _ _ => False) :
    WalkO q loose XP A.hook.says l.row.toRowW d [] (fun f vs => PySem.call f vs) := by
  refine Att.attach_call hn hdf fun w s₀ s₁ mg mb fa o pm cd doc a vs ns G Y ho hd hcd hmg hobj hints hlen hg => ?_
  obtain ⟨K, KX, GK⟩ := Y
  obtain ⟨fd, hb, hF⟩ := F w K mg fa _ GK KX G.T.g hmg
  exact law_call KX G.T.g G.T.b G.T.builtins G.T.nolimit hg hobj hints (Nat.le_trans hlen hn2) hr hF hb (fun H hO hS => hsp K H a ns GK hlen hO hS) fun H e s' z => z
end Hd
namespace K19
open PySem PySem.Spec PyProof.Rows L2 Vi K12
open PySem (Str)
abbrev owns : List Str := ["NoRow", "Twice", "NoPair", "Same", "Ring", "TooLong", "Unlike", "NotFormed", "Double", "NoKind"]
def isRf (K : PySem.W.Frag) (n : Str) : Bool := (Hd.adr (PySem.W.nsIn K mainGlobals n)).isSome
def xsA (K : PySem.W.Frag) (n : Str) : Bool := isRf K n && xcHead K (Hd.clsAt K n) && names.all (fun m => PySem.W.kitOne K (.ref (Hd.clsAt K n)) (.ref (Hd.clsAt K m)) == some (n == m)) && PySem.W.kitOne K (.ref (Hd.clsAt K n)) (.ref (Hd.clsAt K "FormError")) == some true &&
  PySem.W.kitOne K (.ref (Hd.clsAt K n)) (.type "ValueError") == some true && PySem.W.keepIn K (.ref (Hd.clsAt K n)) && fields.all fun f => xgetIn K (Hd.clsAt K n) f
def xsO (K : PySem.W.Frag) (n : Str) : Bool := (match PySem.W.findIn K (.ref (Hd.clsAt K n)) "__init__" with | some (some (.ref f)) => excOwn K (Hd.clsAt K n) f VE "ValueError.__new__" | _ => false) && fields.all fun f => xsetIn K (Hd.clsAt K n) f
def xsB (K : PySem.W.Frag) : Bool := isRf K "FormError" && Hd.isNN (PySem.W.nsIn K mainGlobals "ValueError") && names.all (xsA K) && plains.all (fun n => PySem.W.excIn K (Hd.clsAt K n) VE "ValueError.__new__") && owns.all (xsO K) && baseIn K (Hd.clsAt K "FormError") "ValueError.__init__"
structure XO (K : PySem.W.Frag) : Prop where
  ow : ∀ n ∈ owns, ∀ {f : Addr}, PySem.W.findIn K (.ref (Hd.clsAt K n)) "__init__" = some (some (.ref f)) → excOwn K (Hd.clsAt K n) f VE "ValueError.__new__" = true
  xs : ∀ n ∈ owns, ∀ f ∈ fields, xsetIn K (Hd.clsAt K n) f = true
  hb : baseIn K (Hd.clsAt K "FormError") "ValueError.__init__" = true
theorem parts {K : PySem.W.Frag} (Z : xsB K = true) : isRf K "FormError" = true ∧ Hd.isNN (PySem.W.nsIn K mainGlobals "ValueError") = true ∧ (∀ n ∈ names, xsA K n = true) ∧ (∀ n ∈ plains, PySem.W.excIn K (Hd.clsAt K n) VE "ValueError.__new__" = true) ∧ (∀ n ∈ owns, xsO K n = true) ∧ baseIn K (Hd.clsAt K "FormError") "ValueError.__init__" = true := by
  unfold xsB at Z
  obtain ⟨Z, z6⟩ := Bool.and_eq_true_iff.mp Z
  obtain ⟨Z, z5⟩ := Bool.and_eq_true_iff.mp Z
  obtain ⟨Z, z4⟩ := Bool.and_eq_true_iff.mp Z
  obtain ⟨Z, z3⟩ := Bool.and_eq_true_iff.mp Z
  obtain ⟨z1, z2⟩ := Bool.and_eq_true_iff.mp Z
  exact ⟨z1, z2, List.all_eq_true.mp z3, List.all_eq_true.mp z4, List.all_eq_true.mp z5, z6⟩
theorem xa_of {K : PySem.W.Frag} {h : Heap} {mg : Str → Option Value} (X : K.In h) (G : h.Ns mainGlobals mg) (Z : xsB K = true) : XA K mg (Hd.clsAt K) := by
  have ref : ∀ n, isRf K n = true → mg n = some (.ref (Hd.clsAt K n)) := fun n q => by
    unfold isRf at q
    unfold Hd.clsAt
    obtain ⟨a, e⟩ := Option.isSome_iff_exists.mp q
    rw [e]
    exact PySem.W.mg_of X G (Hd.adr_of e)
  obtain ⟨z1, z2, z3, z4, _, _⟩ := parts Z
  have A : ∀ n ∈ names, isRf K n = true ∧ xcHead K (Hd.clsAt K n) = true ∧ (∀ m ∈ names, PySem.W.kitOne K (.ref (Hd.clsAt K n)) (.ref (Hd.clsAt K m)) = some (n == m)) ∧ PySem.W.kitOne K (.ref (Hd.clsAt K n)) (.ref (Hd.clsAt K "FormError")) = some true ∧ PySem.W.kitOne K (.ref (Hd.clsAt K n)) (.type "ValueError") = some true ∧ PySem.W.keepIn K (.ref (Hd.clsAt K n)) = true ∧ ∀ f ∈ fields, xgetIn K (Hd.clsAt K n) f = true := fun n hn => by
    have q := z3 n hn
    unfold xsA at q
    obtain ⟨q, q7⟩ := Bool.and_eq_true_iff.mp q
    obtain ⟨q, q6⟩ := Bool.and_eq_true_iff.mp q
    obtain ⟨q, q5⟩ := Bool.and_eq_true_iff.mp q
    obtain ⟨q, q4⟩ := Bool.and_eq_true_iff.mp q
    obtain ⟨q, q3⟩ := Bool.and_eq_true_iff.mp q
    obtain ⟨q1, q2⟩ := Bool.and_eq_true_iff.mp q
    exact ⟨q1, q2, fun m hm => beq_iff_eq.mp (List.all_eq_true.mp q3 m hm), beq_iff_eq.mp q4, beq_iff_eq.mp q5, q6, List.all_eq_true.mp q7⟩
  exact ⟨fun n hn => ref n (A n hn).1, ref _ z1, PySem.W.mg_none_of X G (Hd.isNN_of z2), fun n hn => (A n hn).2.1, fun n hn => (A n hn).2.2.1, fun n hn => (A n hn).2.2.2.1, fun n hn => (A n hn).2.2.2.2.1, fun n hn => (A n hn).2.2.2.2.2.1, z4, fun n hn => (A n hn).2.2.2.2.2.2⟩
theorem xo_of {K : PySem.W.Frag} (Z : xsB K = true) : XO K := by
  obtain ⟨_, _, _, _, z5, z6⟩ := parts Z
  refine ⟨fun n hn f e => ?_, fun n hn => ?_, z6⟩
  · have q := z5 n hn
    unfold xsO at q
    rw [e] at q
    exact (Bool.and_eq_true_iff.mp q).1
  · have q := z5 n hn
    unfold xsO at q
    exact List.all_eq_true.mp (Bool.and_eq_true_iff.mp q).2
def ask0 : Hd.Ask := ⟨[⟨some "NoRow", "__init__", "NoRow.__init__", st_NoRow_init⟩, ⟨some "Twice", "__init__", "Twice.__init__", st_Twice_init⟩, ⟨some "NoPair", "__init__", "NoPair.__init__", st_NoPair_init⟩, ⟨some "Same", "__init__", "Same.__init__", st_Same_init⟩, ⟨some "Ring", "__init__", "Ring.__init__", st_Ring_init⟩, ⟨some "TooLong", "__init__", "TooLong.__init__", st_TooLong_init⟩, ⟨some "Unlike", "__init__", "Unlike.__init__", st_Unlike_init⟩, ⟨some "NotFormed", "__init__", "NotFormed.__init__", st_NotFormed_init⟩, ⟨some "Double", "__init__", "Double.__init__", st_Double_init⟩, ⟨some "NoKind", "__init__", "NoKind.__init__", st_NoKind_init⟩, ⟨none, "_law_cell_at", "_law_cell_at", st_l_cell_at⟩, ⟨none, "_law_whole", "_law_whole", st_l_whole⟩, ⟨none, "_law_classes", "_law_classes", st_l_classes⟩, ⟨none, "_law_made", "_law_made", st_l_made⟩, ⟨none, "_law_right", "_law_right", st_l_right⟩, ⟨none, "law", "law", st_law⟩], [], ["len", "all", "list", "isinstance", "int", "bool", "str", "range"], []⟩
def ask : Hd.AskX := ⟨ask0, xsB⟩
theorem all_mk {l : PySem.W.OpenLaw} {w : World} {K : PySem.W.Frag} {h : Heap} {mg : Str → Option Value} {fa : Addr} (Y : ask.Good K) (X : K.In h) (G : h.Ns mainGlobals mg) (hfa : mg "law" = some (.ref fa)) :
    ∃ fd : FuncData, (∀ (s : Shared) (v : Value), BindsTo s fd ⟨[v], []⟩ [("_law_script", v)]) ∧ ∀ base : Heap, K.In base → base.Ns mainGlobals mg → FnOk l.prog w K mg base CX0 7 fa fd ["_law_script"] (Hd.spL K) := by
  obtain ⟨Y, Z⟩ := Y
  obtain ⟨f0, d0, a0, F0, i0⟩ := Y.fn 0 rfl
  obtain ⟨f1, d1, a1, F1, i1⟩ := Y.fn 1 rfl
  obtain ⟨f2, d2, a2, F2, i2⟩ := Y.fn 2 rfl
  obtain ⟨f3, d3, a3, F3, i3⟩ := Y.fn 3 rfl
  obtain ⟨f4, d4, a4, F4, i4⟩ := Y.fn 4 rfl
  obtain ⟨f5, d5, a5, F5, i5⟩ := Y.fn 5 rfl
  obtain ⟨f6, d6, a6, F6, i6⟩ := Y.fn 6 rfl
  obtain ⟨f7, d7, a7, F7, i7⟩ := Y.fn 7 rfl
  obtain ⟨f8, d8, a8, F8, i8⟩ := Y.fn 8 rfl
  obtain ⟨f9, d9, a9, F9, i9⟩ := Y.fn 9 rfl
  obtain ⟨f10, d10, a10, F10, i10⟩ := Y.fn 10 rfl
  obtain ⟨f11, d11, a11, F11, i11⟩ := Y.fn 11 rfl
  obtain ⟨f12, d12, a12, F12, i12⟩ := Y.fn 12 rfl
  obtain ⟨f13, d13, a13, F13, i13⟩ := Y.fn 13 rfl
  obtain ⟨f14, d14, a14, F14, i14⟩ := Y.fn 14 rfl
  obtain ⟨f15, d15, a15, F15, i15⟩ := Y.fn 15 rfl
  cases hfa.symm.trans (PySem.W.mg_of X G a15)
  have T : Txt K mg := ⟨PySem.W.mg_none_of X G (Y.out 0 rfl), PySem.W.mg_none_of X G (Y.out 1 rfl), PySem.W.mg_none_of X G (Y.out 2 rfl), PySem.W.mg_none_of X G (Y.out 3 rfl), PySem.W.mg_none_of X G (Y.out 4 rfl), PySem.W.mg_none_of X G (Y.out 5 rfl), PySem.W.mg_none_of X G (Y.out 6 rfl), PySem.W.mg_none_of X G (Y.out 7 rfl)⟩
  have Xa : XA K mg (Hd.clsAt K) := xa_of X G Z
  have Xo := xo_of Z
  have b0 := F0.binds (ps := ["self", "at"]) fun _ _ _ _ _ _ _ h => by obtain ⟨_, _, rfl⟩ := Hd.us2 h; rfl
  have b1 := F1.binds (ps := ["self", "sign"]) fun _ _ _ _ _ _ _ h => by obtain ⟨_, _, rfl⟩ := Hd.us2 h; rfl
  have b2 := F2.binds (ps := ["self", "sign"]) fun _ _ _ _ _ _ _ h => by obtain ⟨_, _, rfl⟩ := Hd.us2 h; rfl
  have b3 := F3.binds (ps := ["self", "one", "other"]) fun _ _ _ _ _ _ _ h => by obtain ⟨_, _, _, rfl⟩ := Hd.us3 h; rfl
  have b4 := F4.binds (ps := ["self", "signs"]) fun _ _ _ _ _ _ _ h => by obtain ⟨_, _, rfl⟩ := Hd.us2 h; rfl
  have b5 := F5.binds (ps := ["self", "sign"]) fun _ _ _ _ _ _ _ h => by obtain ⟨_, _, rfl⟩ := Hd.us2 h; rfl
  have b6 := F6.binds (ps := ["self", "at"]) fun _ _ _ _ _ _ _ h => by obtain ⟨_, _, rfl⟩ := Hd.us2 h; rfl
  have b7 := F7.binds (ps := ["self", "which"]) fun _ _ _ _ _ _ _ h => by obtain ⟨_, _, rfl⟩ := Hd.us2 h; rfl
  have b8 := F8.binds (ps := ["self", "at"]) fun _ _ _ _ _ _ _ h => by obtain ⟨_, _, rfl⟩ := Hd.us2 h; rfl
  have b9 := F9.binds (ps := ["self", "at"]) fun _ _ _ _ _ _ _ h => by obtain ⟨_, _, rfl⟩ := Hd.us2 h; rfl
  have b10 := F10.binds (ps := ["_law_script", "_law_k"]) fun _ _ _ _ _ _ _ h => by obtain ⟨_, _, rfl⟩ := Hd.us2 h; rfl
  have b11 := F11.binds (ps := ["_law_found"]) fun _ _ _ _ _ _ _ h => by obtain ⟨_, rfl⟩ := Hd.us1 h; rfl
  have b12 := F12.binds (ps := ["_law_e"]) fun _ _ _ _ _ _ _ h => by obtain ⟨_, rfl⟩ := Hd.us1 h; rfl
  have b13 := F13.binds (ps := ["_law_one", "_law_other", "_law_signs", "_law_way"]) fun _ _ _ _ _ _ _ h => by obtain ⟨_, _, _, _, rfl⟩ := Hd.us4 h; rfl
  have b14 := F14.binds (ps := ["_law_some", "_law_one", "_law_other", "_law_signs"]) fun _ _ _ _ _ _ _ h => by obtain ⟨_, _, _, _, rfl⟩ := Hd.us4 h; rfl
  have hb : ∀ (s : Shared) (v : Value), BindsTo s d15 ⟨[v], []⟩ [("_law_script", v)] := by obtain ⟨_, _, _, _, _, _, _, _, _, rfl, _⟩ := F15.ex; exact fun s v => .of_eq rfl
  refine ⟨d15, hb, fun base _ _ => ?_⟩
  have L_NoRow : NewI l.prog w K mg base "NoRow" "at" (Hd.clsAt K "NoRow") := ⟨_, _, _, ok_NoRow (P := l.prog) (w := w) (base := base) F0 (Xo.ow "NoRow" (by decide) a0) Xo.hb Xa.fe (Xo.xs "NoRow" (by decide) "at" (by decide)), (Xo.ow "NoRow" (by decide) a0), b0, Xa.nm "NoRow" (by decide), Xa.kp "NoRow" (by decide)⟩
  have L_Twice : NewI l.prog w K mg base "Twice" "sign" (Hd.clsAt K "Twice") := ⟨_, _, _, ok_Twice (P := l.prog) (w := w) (base := base) F1 (Xo.ow "Twice" (by decide) a1) Xo.hb Xa.fe (Xo.xs "Twice" (by decide) "sign" (by decide)), (Xo.ow "Twice" (by decide) a1), b1, Xa.nm "Twice" (by decide), Xa.kp "Twice" (by decide)⟩
  have L_NoPair : NewI l.prog w K mg base "NoPair" "sign" (Hd.clsAt K "NoPair") := ⟨_, _, _, ok_NoPair (P := l.prog) (w := w) (base := base) F2 (Xo.ow "NoPair" (by decide) a2) Xo.hb Xa.fe (Xo.xs "NoPair" (by decide) "sign" (by decide)), (Xo.ow "NoPair" (by decide) a2), b2, Xa.nm "NoPair" (by decide), Xa.kp "NoPair" (by decide)⟩
  have L_Same : NewII l.prog w K mg base "Same" "one" "other" (Hd.clsAt K "Same") := ⟨_, _, _, ok_Same (P := l.prog) (w := w) (base := base) F3 (Xo.ow "Same" (by decide) a3) Xo.hb Xa.fe (Xo.xs "Same" (by decide) "one" (by decide)) (Xo.xs "Same" (by decide) "other" (by decide)), (Xo.ow "Same" (by decide) a3), b3, Xa.nm "Same" (by decide), Xa.kp "Same" (by decide)⟩
  have L_Ring : NewR l.prog w K mg base "Ring" "signs" (Hd.clsAt K "Ring") := ⟨_, _, _, ok_Ring (P := l.prog) (w := w) (base := base) F4 (Xo.ow "Ring" (by decide) a4) Xo.hb Xa.fe (Xo.xs "Ring" (by decide) "signs" (by decide)) T.mstr T.mlist, (Xo.ow "Ring" (by decide) a4), b4, Xa.nm "Ring" (by decide), Xa.kp "Ring" (by decide)⟩
  have L_TooLong : NewI l.prog w K mg base "TooLong" "sign" (Hd.clsAt K "TooLong") := ⟨_, _, _, ok_TooLong (P := l.prog) (w := w) (base := base) F5 (Xo.ow "TooLong" (by decide) a5) Xo.hb Xa.fe (Xo.xs "TooLong" (by decide) "sign" (by decide)), (Xo.ow "TooLong" (by decide) a5), b5, Xa.nm "TooLong" (by decide), Xa.kp "TooLong" (by decide)⟩
  have L_Unlike : NewI l.prog w K mg base "Unlike" "at" (Hd.clsAt K "Unlike") := ⟨_, _, _, ok_Unlike (P := l.prog) (w := w) (base := base) F6 (Xo.ow "Unlike" (by decide) a6) Xo.hb Xa.fe (Xo.xs "Unlike" (by decide) "at" (by decide)), (Xo.ow "Unlike" (by decide) a6), b6, Xa.nm "Unlike" (by decide), Xa.kp "Unlike" (by decide)⟩
  have L_NotFormed : NewI l.prog w K mg base "NotFormed" "which" (Hd.clsAt K "NotFormed") := ⟨_, _, _, ok_NotFormed (P := l.prog) (w := w) (base := base) F7 (Xo.ow "NotFormed" (by decide) a7) Xo.hb Xa.fe (Xo.xs "NotFormed" (by decide) "which" (by decide)), (Xo.ow "NotFormed" (by decide) a7), b7, Xa.nm "NotFormed" (by decide), Xa.kp "NotFormed" (by decide)⟩
  have L_Double : NewI l.prog w K mg base "Double" "at" (Hd.clsAt K "Double") := ⟨_, _, _, ok_Double (P := l.prog) (w := w) (base := base) F8 (Xo.ow "Double" (by decide) a8) Xo.hb Xa.fe (Xo.xs "Double" (by decide) "at" (by decide)), (Xo.ow "Double" (by decide) a8), b8, Xa.nm "Double" (by decide), Xa.kp "Double" (by decide)⟩
  have L_NoKind : NewI l.prog w K mg base "NoKind" "at" (Hd.clsAt K "NoKind") := ⟨_, _, _, ok_NoKind (P := l.prog) (w := w) (base := base) F9 (Xo.ow "NoKind" (by decide) a9) Xo.hb Xa.fe (Xo.xs "NoKind" (by decide) "at" (by decide)), (Xo.ow "NoKind" (by decide) a9), b9, Xa.nm "NoKind" (by decide), Xa.kp "NoKind" (by decide)⟩
  have L_l_cell_at : Lnk l.prog w K mg base (clX (Hd.clsAt K)) "_law_cell_at" _ ["_law_script", "_law_k"] r_cell_at := ⟨_, _, ok_l_cell_at (P := l.prog) (w := w) (base := base) F10 T Xa, PySem.W.mg_of X G a10, F10.kp, b10⟩
  have L_l_whole : Lnk l.prog w K mg base (clX (Hd.clsAt K)) "_law_whole" _ ["_law_found"] r_whole := ⟨_, _, ok_l_whole (P := l.prog) (w := w) (base := base) F11 T Xa, PySem.W.mg_of X G a11, F11.kp, b11⟩
  have L_l_classes : Lnk l.prog w K mg base (clX (Hd.clsAt K)) "_law_classes" _ ["_law_e"] r_classes := ⟨_, _, ok_l_classes (P := l.prog) (w := w) (base := base) F12 T Xa, PySem.W.mg_of X G a12, F12.kp, b12⟩
  have L_l_made : Lnk l.prog w K mg base (clX (Hd.clsAt K)) "_law_made" _ ["_law_one", "_law_other", "_law_signs", "_law_way"] r_made := ⟨_, _, ok_l_made (P := l.prog) (w := w) (base := base) F13 T Xa L_NoRow L_Twice L_NoPair L_Same L_Ring L_TooLong L_Unlike L_NotFormed L_Double L_NoKind, PySem.W.mg_of X G a13, F13.kp, b13⟩
  have L_l_right : Lnk l.prog w K mg base (clX (Hd.clsAt K)) "_law_right" _ ["_law_some", "_law_one", "_law_other", "_law_signs"] r_right := ⟨_, _, ok_l_right (P := l.prog) (w := w) (base := base) F14 T Xa L_l_classes L_l_whole, PySem.W.mg_of X G a14, F14.kp, b14⟩
  exact FnOk.imp (ok_law (P := l.prog) (w := w) (base := base) F15 T Xa L_l_cell_at L_l_made L_l_right) (Hd.law_sp Y.nl fun ns _ => law_true ns)
def view : Program := { PySem.Challenge.pw_signforms_k19_refusals_made with main := { PySem.Challenge.pw_signforms_k19_refusals_made.main with body := [top 23] } }
def loos : List Str := (["FormError", "NoRow", "Twice", "NoPair", "Same", "Ring", "TooLong", "NoStep", "Unlike", "TooMany", "NotFormed", "Double", "NoKind", "Nothing", "NoPlace", "NoUndo", "_law_cell_at", "_law_whole", "_law_classes", "_law_made"] : List Str) ++ (["_law_right"] : List Str)
theorem left : PySem.W.LeftO PySem.Challenge.pw_signforms_k19_refusals_made view loos (fun s => PySem.W.xlAt view [] s && PySem.W.recOk [] s) ask.hook.obs ask.hook.val 6000 := Hd.left_of (by kernel_rfl) (fun _ => by kernel_rfl) (by decide +kernel) fun w os => by kernel_rfl
end K19
open PySem PySem.W PyProof.Rows
set_option maxRecDepth 100000 in
set_option maxHeartbeats 0 in
theorem PySem.Challenge.cw_signforms_k19_refusals_made_holds : PySem.Challenge.rw_signforms_k19_refusals_made.Holds := by
  refine holds_law (by decide +kernel) fun said => holds_open (q := K19.view) (loose := K19.loos) (XP := XL K19.view []) (YP := K19.ask.hook.says) K19.left K19.ask.hook.of K19.ask.hook.keeps (fun s e => xl_of s (Bool.and_eq_true_iff.mp e).1) XL.keeps (by rfl) (by rfl) (by rfl) (fun s e => recFacts_of (Bool.and_eq_true_iff.mp e).2) rfl said (by decide +kernel) ⟨rfl, rfl, rfl, rfl, rfl, by decide +kernel⟩ ?hw ?hc
  case hw => w_witness2
  case hc => exact Hd.walk_ofX (k := 7) rfl (by decide) rfl ⟨rfl, by decide, by decide⟩ (fun w K mg fa h Y X G e => K19.all_mk Y X G e) fun K H a ns Y hl hO hS => ⟨a, ns, rfl, hS, hl, fun _ => rfl⟩
