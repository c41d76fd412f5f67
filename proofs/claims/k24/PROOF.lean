import PyProof.Rows.All
import Wide.All
import OpenK.AllK
import Wide.FinOn
import PyProof.EqAt
import PyProof.EqKinds
import PyProof.TupleCall
import PyProof.CompFree
import Lean
import KE.KRevIter
import PyProof.TupleOfGen
import PyProof.CollectIter
import PyProof.Rows.Tup
import PyProof.SliceList
import PySem.Challenge.RW_signforms_k24_whole_any_turn_of_openings
set_option tactic.hygienic false
set_option genInjectivity false
set_option Elab.async false
set_option linter.all false
set_option maxRecDepth 100000
set_option genSizeOf false
set_option maxHeartbeats 4000000
open Nat renaming le_trans → z5, le_refl → zf, lt_of_le_of_lt → zg, lt_of_lt_of_le → zm, le_add_right → yc, ne_of_lt → yh, add_le_add_left → yz, zero_le → xc, le_of_lt → xn, succ_le_succ → xo, le_of_eq → xy, le_add_left → w9, add_le_add → wa, le_succ_of_le → we, le_of_lt_succ → wf, not_lt_zero → wo, lt_irrefl → v7, lt_trans → vb, min_eq_left → vp, mul_le_mul_left → uc, add_le_add_right → ux, not_lt → t9, add_sub_cancel_left → tu, le_of_succ_le_succ → sj, add_right_comm → sk, lt_succ_of_lt → sy, lt_succ_of_le → r4, le_succ → rf, min_eq_right → ri, lt_succ_self → rj, add_assoc → ql, pos_of_ne_zero → qw, ne_of_gt → p8, add_comm → p9, min_le_right → pv, zero_add → n9, succ → mn
open PySem renaming wpAny_bind → z6, starEach → zh, wpAny_pure → zr, sizeLine → y4, mainGlobals → y7, NameKind → ya, Program → yp, bootBuiltins → yr, FuncData → x6, Builtin → xa, PassesOwn → xt, builtinLookup_eq_fast → xw, foldedSetIterable → w5, wpAny_newObj_type → wd, compareOp → wg, bindArgs → wj, wpAny_mono → wu, typeLookup_type → vo, wpAny_specialOf → u7, wpAny_of_eq → uf, swapsWith → ug, wpAny_Call_Name_kw → uj, tupleKind_room_in1 → uk, isSubtype_type → ul, wpAny_passesOwn → ut, wpAny_ite_split → uu, wpAny_truthy_bool → uv, wpAny_field → uw, mem_of_lookup → tj, wpAny_call_entry → tq, sizeLine_eq → sg, behindInMarks → sv, attributeBase → sw, sysModules → re, plainId_quiet → qi, codeAny_builtin → qp, codeAny → qq, wpAny_callSpecial?_slot → qy, sliceBounds → qz, wpAny_pyIter_list → p0, wpAny_isInstance → pj, typeLookup → pp, call_meets → pq, assignEach → pr, wpAny_holding → pz, keywordEach → o3, binaryOp → o4, wpAny_updateSeq → oh, wpAny_execs_nil → oj, letOwnedTupleGo → om, wpAny_typeOf → oy, tupleKind → na, sliceBounds → ny
open List renaming length_map → z7, mem_cons_of_mem → z8, getElem?_eq_getElem → z9, mem_cons_self → za, map_cons → zc, mem_append_right → zd, mem_append_left → zk, length_append → zl, size_toArray → zn, nodup_cons → y0, mem_append → y2, map_append → y3, mem_cons → y6, mem_singleton → ye, lookup_cons → yf, getElem?_eq_some_iff → yi, map_map → ym, getElem?_map → yn, replicate → yt, getElem?_set_ne → yu, mem_map → yw, length_cons → yx, nodup_append → x4, append_nil → xf, not_mem_nil → xg, length_reverse → xl, mem_reverse → xp, map_reverse → xu, length_singleton → xx, getElem?_append_left → w6, lookup → wk, getD_eq_getElem?_getD → wl, nil_append → wq, flatMap_append → wv, flatMap_cons → wx, append_assoc → wy, find?_cons → vc, length → vg, any_cons → vj, nodup_nil → vm, getElem?_set_self → vn, drop_eq_getElem_cons → vq, range → vw, length_drop → ui, getElem?_append_right → um, reverse_reverse → uy, mem_range → tw, length_take → tz, getElem?_replicate → sd, any_eq_true → se, take_of_length_le → sm, map_singleton → so, sum_cons → sx, getElem?_mapIdx → rg, getElem_mem → ro, flatMap_nil → rq, all_eq_true → q4, take_succ_cons → qd, reverse_append → qe, map_congr_left → qf, getElem_of_mem → qg, mem_filter → qt, take_zero → pb, reverse_perm → pc, reverse_cons → pd, Sublist → pe, length_replicate → pi, mem_of_getElem? → o5, length_set → on, filterMap_cons → oq, sum_singleton → nq, getElem?_set → m9, any_eq_false → ma, all_cons → mi
open PySem.Heap renaming get?_push_of_some → zb, lt_size → zt, get?_push_size → zy, get?_update_other → ud, get?_update_self → up, SameBut → t3, size_push → ph
open PySem.W renaming Frag → ze, fnOf → zp, keepIn → yb, nsIn → yg, codeIn → yo, mg_of → x5, mg_none_of → xh, findIn → xk, kia_one → wn, emptyDict → ww, instObj → u8, plainGet → rh, hasDictIn → p7, plainGet_of → oo, isFn → n8, lookIn → nh, kitOne → ni, callWith_K → nj, plainOver → m5, methodObj → m6
open Sum renaming inl → zu
open PySem.F renaming plainAttrs_list → zx, type_list_append → yj, slot_list_append → yl, slot_dict_get → vt, entry_dict_get → si, type_list_extend → qj, slot_list_extend → qk, slot_list_getattribute → qo
open Int renaming natCast_nonneg → y8, toNat_natCast → xq, lt_of_lt_of_le → wm, ofNat_lt → ve, lt_trans → vf, emod_lt_of_pos → vz, not_lt → u9, emod_nonneg → ua, ofNat_le → uz, toNat_of_nonneg → tm, le_trans → sq, lt_of_le_of_lt → qx, le_of_lt_add_one → o6, add_le_add_right → oe, ofNat → mr
open Bool renaming false_ne_true → y9, and_eq_true → u0, noConfusion → px, and_false → nv
open Option.some renaming inj → yy, injEq → m7
open PySem.Value renaming ref → x9, none → qu, int → nc
open PySem.PassesOwn renaming never → xb
open Option renaming some → xi, map_some → w8, getD_some → uh, isSome_iff_exists → t6, getD_none → tt, isSome_map → m8
open True renaming intro → xm
open PySem.SeqAt renaming EqAt → xz
open PySem.Builtin.List renaming listTooLong → wc, listExtendWith → vi, listLengthHint → ue
open Ne renaming symm → wt
open PySem.Builtin.Tuple renaming tupleExact → va
open PyProof.Rows renaming callWith_type1 → vh, slot_tuple_getitem → tf, IntsAre → pf, subscriptTail → o0, AllBare → me
open Prod.mk renaming injEq → u3
open Sum.inl renaming inj → u4
open False renaming elim → ub
open PySem.Calls renaming spliced_cons → uo, callWith_builtin → sr, spliced_nil → rb, evalArgs_plain → og
open Classical renaming choose_spec → uq
open PySem.Builtin.Slice renaming slicePlaces → ur, sliceAdjust → q5
open PySem.Around renaming under_plainId → t4
open ForInStep renaming yield → su
open List.Sublist renaming refl → ra
open Array renaming length_toList → qh
open Int.ofNat renaming inj → qm
open Prod renaming mk → qr
open PySem.Obj renaming data_mapFields → qv, mapSeq → no
open List.Perm renaming nodup_iff → ou
open PySem.Heap.SameBut renaming update → ox
open PySem.Str renaming ofString → oz
open PySem.Heap.IsSliceOf renaming new → nu
open PySem.Paired renaming length → mh
theorem zz {G:Prop} (h:∀ P:Prop,(G→P)→P):G:=h G id
set_option tactic.hygienic false
set_option genInjectivity false
set_option Elab.async false
set_option linter.all false
set_option maxRecDepth 100000
namespace L2
open PySem PySem.Spec PyProof.Rows
noncomputable abbrev Key:=Sum Int Str
noncomputable def keyIs:Key→Value→Bool
 | .inl k,v=>Value.isInt k v
 | .inr x,v=>Value.isStrOf x v
noncomputable def keyH (w:World):Key→Int
 | .inl k=>hashInt k
 | .inr x=>hashStr w x
theorem ba:∀ {k:Key} {v:Value},keyIs k v=true→(∃ i t,k=zu i∧v=nc i t)∨(∃ x t,k=Sum.inr x∧v=Value.str x t)
 | .inl i,v,h=>by
  obtain ⟨t,e⟩:=Value.isInt_shape (k:=i) (v:=v) h
  exact .inl ⟨i,t,rfl,e⟩
 | .inr x,v,h=>by
  obtain ⟨t,e⟩:=Value.isStrOf_shape (x:=x) (v:=v) h
  exact .inr ⟨x,t,rfl,e⟩
theorem keyIs_int (i:Int) (t:Tok):keyIs (.inl i) (.int i t)=true:=by simp [keyIs,Value.isInt]
theorem keyIs_str (x:Str) (t:Tok):keyIs (.inr x) (.str x t)=true:=by simp [keyIs,Value.isStrOf]
theorem key_ll (a b:Int):decide ((zu a:Key)=zu b)=(a == b):=by
 by_cases e:a=b
 ·subst e; simp
 ·have h:¬ (zu a:Key)=zu b:=fun q=>e (u4 q)
  rw [decide_eq_false h]
  exact (beq_eq_false_iff_ne.mpr e).symm
theorem key_rr (a b:Str):decide ((Sum.inr a:Key)=Sum.inr b)=decide (a=b):=by
 by_cases e:a=b
 ·subst e; simp
 ·have h:¬ (Sum.inr a:Key)=Sum.inr b:=fun q=>e (Sum.inr.inj q)
  rw [decide_eq_false h,decide_eq_false e]
theorem key_lr (a:Int) (b:Str):decide ((zu a:Key)=Sum.inr b)=false:=decide_eq_false (fun q=>nomatch q)
theorem key_rl (a:Str) (b:Int):decide ((Sum.inr a:Key)=zu b)=false:=decide_eq_false (fun q=>nomatch q)
noncomputable def bf (prog:yp) (w:World):PySem.KeyKind prog w Key where
 is:=keyIs
 hash:=keyH w
 inj:=fun v a b ha hb=>by
  rcases ba ha with ⟨i,t,rfl,rfl⟩ | ⟨x,t,rfl,rfl⟩
  ·rcases ba hb with ⟨j,u,rfl,e⟩ | ⟨y,u,rfl,e⟩
   ·injection e with e1 _; rw [e1]
   ·exact nomatch e
  ·rcases ba hb with ⟨j,u,rfl,e⟩ | ⟨y,u,rfl,e⟩
   ·exact nomatch e
   ·injection e with e1 _; rw [e1]
 byValue:=fun k v h=>by
  rcases ba h with ⟨i,t,rfl,rfl⟩ | ⟨x,t,rfl,rfl⟩ <;> rfl
 pyHash:=fun hv h=>by
  rcases ba hv with ⟨i,t,rfl,rfl⟩ | ⟨x,t,rfl,rfl⟩
  ·exact wpAny_pyHash_int h
  ·exact wpAny_pyHash_str h
 eqBool:=fun hu hv h=>by
  rcases ba hu with ⟨i,t,rfl,rfl⟩ | ⟨x,t,rfl,rfl⟩
  ·rcases ba hv with ⟨j,u,rfl,rfl⟩ | ⟨y,u,rfl,rfl⟩
   ·rw [key_ll] at h; exact wpAny_eqBool_int h
   ·rw [key_lr] at h; exact xz.int_str i t y u _ _ _ _ h
  ·rcases ba hv with ⟨j,u,rfl,rfl⟩ | ⟨y,u,rfl,rfl⟩
   ·rw [key_rl] at h; exact xz.str_int x t j u _ _ _ _ h
   ·rw [key_rr] at h; exact wpAny_eqBool_str h
 «strs» := fun k x t v h=>by
  rcases ba h with ⟨i,u,rfl,e⟩ | ⟨y,u,rfl,e⟩
  ·exact nomatch e
  ·injection e with e1 _
   subst e1
   cases v <;> rfl
theorem mixKind_int (prog:yp) (w:World) (i:Int) (t:Tok):(bf prog w).is (.inl i) (.int i t)=true:=keyIs_int i t
theorem mixKind_str (prog:yp) (w:World) (x:Str) (t:Tok):(bf prog w).is (.inr x) (.str x t)=true:=keyIs_str x t
end L2
namespace L2
open PySem PySem.Spec PyProof.Rows
set_option genInjectivity true in
inductive V where
 | non | bl (b:Bool) | int (i:Int) | str (x:Str) | byt (b:Array UInt8) | flt (b:UInt64) | ref (a:Addr) | ty (n:String)
 deriving DecidableEq
noncomputable def RelV:V→Value→Prop
 | .non,u=>u=qu
 | .bl b,u=>u=Value.bool b
 | .int i,u=>∃ t,u=nc i t
 | .str x,u=>∃ t,u=Value.str x t
 | .byt b,u=>∃ t,u=Value.bytes b t
 | .flt b,u=>∃ t,u=Value.float b t
 | .ref a,u=>u=x9 a
 | .ty n,u=>u=Value.type n
noncomputable abbrev Vals:List V→List Value→Prop:=Paired RelV
theorem Vals.length {xs:List V} {us:List Value} (r:Vals xs us):xs.length=us.length:=mh r
theorem Vals.get:∀ {xs:List V} {us:List Value} {i:Nat} {x:V},Vals xs us→xs[i]?=some x→∃ u,us[i]?=some u∧RelV x u:=by
 intro xs us i x h
 induction h generalizing i with
 | nil=>exact fun e=>nomatch List.getElem?_nil.symm.trans e
 | cons r t ih =>
  intro e
  cases i with
  | zero=>exact ⟨_,rfl,yy e ▸ r⟩
  | succ i=>exact ih e
theorem Vals.append:∀ {xs ys:List V} {us ws:List Value},Vals xs us→Vals ys ws→Vals (xs++ys) (us++ws):=by
 intro xs ys us ws h s
 induction h with
 | nil=>exact s
 | cons r t ih=>exact .cons r ih
theorem Vals.take:∀ {xs:List V} {us:List Value} (n:Nat),Vals xs us→Vals (xs.take n) (us.take n):=by
 intro xs us n h
 induction h generalizing n with
 | nil=>rw [List.take_nil,List.take_nil]; exact .nil
 | cons r t ih =>
  cases n with
  | zero=>exact .nil
  | succ n=>exact .cons r (ih n)
theorem Vals.drop:∀ {xs:List V} {us:List Value} (n:Nat),Vals xs us→Vals (xs.drop n) (us.drop n):=by
 intro xs us n h
 induction h generalizing n with
 | nil=>rw [List.drop_nil,List.drop_nil]; exact .nil
 | cons r t ih =>
  cases n with
  | zero=>exact .cons r t
  | succ n=>exact ih n
noncomputable def RelO:Option V→Option Value→Prop
 | some v,some u=>RelV v u
 | none,none=>True
 | _,_=>False
noncomputable def KV {κ:Type}:List (κ × V)→List (κ × Value)→Prop:=Paired fun (p:κ × V) (q:κ × Value)=>p.1=q.1∧RelV p.2 q.2
noncomputable def kV:Key→V
 | .inl i=>.int i
 | .inr x=>.str x
set_option genInjectivity true in
inductive HO where
  | lst (xs:List V)
  | tup (xs:List V)
  | dK (kvs:List (Key × V)) | dT (kvs:List (List Key × V))
  | set (S:Int→Bool) (n:Nat)
  | ins (C dx:Addr) (fs:List (Str × V))
  | own (x:Addr)
  | xd (fs:List (Str × V))
  | met (f x:Addr)
  | rng (lo hi:Int)
  | frz (o:Obj) (u:HO)
  | tbl (ps:Array Value)
  | ext (φ:Heap→Prop)
noncomputable abbrev Hp:=Addr→Option HO
noncomputable def upd (H:Hp) (a:Addr) (o:HO):Hp:=fun b=>if b=a then some o else H b
theorem ai {H:Hp} {a:Addr} {o:HO}:upd H a o a=some o:=by unfold upd; rw [if_pos rfl]
theorem ah {H:Hp} {a b:Addr} {o:HO} (h:b≠a):upd H a o b=H b:=by unfold upd; rw [if_neg h]
theorem ne_of {H:Hp} {a b:Addr} {o u:HO} (h:H a=some o) (h':H b=some u) (d:o≠u):a≠b:=by
 intro e; subst e; rw [h] at h'; exact d (yy h')
theorem bg {H:Hp} {a b:Addr} {o:HO} (h:H a=some o) (h':H b=none):a≠b:=by
 intro e; subst e; rw [h] at h'; injection h'
inductive OLst (h:Heap) (a:Addr) (xs:List V):Prop
 | mk (z : xs.length ≤ y4) (its : List Value) (n : Nat) (r : Vals xs its) (e : h.get? a = some { cls := .type "list", data := .seq its.toArray n })
inductive OTup (h:Heap) (a:Addr) (xs:List V):Prop
 | mk (z:xs.length≤y4) (its:List Value) (r:Vals xs its) (e:IsTup h a its.toArray)
inductive ODic (P:yp) (w:World) (h:Heap) (a:Addr) (kvs:List (Key × V)):Prop
 | mk (z:kvs.length≤y4) (y:(a == re)=false) (vs:List (Key × Value)) (r:KV kvs vs) (e:h.DictOf (bf P w) a vs)
inductive OIns (H:Hp) (h:Heap) (a C dx:Addr) (fs:List (Str × V)):Prop
 | mk (d:H dx=some (.own a)) (z:fs.length≤1000) (ne:dx≠a) (e:h.get? a=some (u8 C dx)) (mA:Str→Option Value) (n:h.Ns1 dx mA) (r:∀ f,RelO (fs.lookup f) (mA f)) (wi:PySem.Within mA (fs.map (·.1)))
section
variable (P:yp) (w:World)
noncomputable def bQ (H:Hp) (h:Heap) (a:Addr):HO→Prop
 | .lst xs=>OLst h a xs
 | .tup xs=>OTup h a xs
 | .dK kvs=>ODic P w h a kvs
 | .dT kvs=>kvs.length≤y4∧(a == re)=false∧∃ xs:List (List Key × Addr × Value),
   Paired (fun (p:List Key × V) (q:List Key × Addr × Value)=>p.1=q.1∧H q.2.1=some (.tup (p.1.map kV))∧RelV p.2 q.2.2) kvs xs ∧
   ∃ o es ep,h.get? a=some o∧o.ExactDict∧o.data=.dict es ep∧es.toList=xs.map (entryOfKey (na (bf P w)))∧(xs.map (·.1)).Nodup
 | .set S n=>h.SetOf (intKind P w) a S n
 | .ins C dx fs=>OIns H h a C dx fs
 | .own _=>∃ o,h.get? a=some o
 | .xd fs=>∃ mA,h.Ns1 a mA∧∀ f,RelO (fs.lookup f) (mA f)
 | .rng lo hi => ∃ t u v, h.get? a = some { cls := .type "range", data := .fields #[.int lo t, .int hi u, .int 1 v] }
 | .frz o u=>h.get? a=some o∧bQ H h a u
 | .tbl ps=>h.get? a=some { cls:=.none,data:=.fields ps }
 | .met f x=>h.get? a=some (m6 (.ref f) (.ref x))
 | .ext φ=>φ h∧(∃ o,h.get? a=some o)∧∀ h1 h2:Heap,φ h1→(∀ o,h1.get? a=some o→h2.get? a=some o)→φ h2
noncomputable def HOk (H:Hp) (h:Heap):Prop:=∀ a o,H a=some o→bQ P w H h a o
end
section
variable {P:yp} {w:World} {H H':Hp} {h h':Heap} {a:Addr} {o:HO}
theorem bQ.lt (x:bQ P w H h a o):a < h.objs.size:=by
 cases o with
 | lst xs=>obtain ⟨_,_,_,_,e⟩:=x; exact zt e
 | tup xs=>obtain ⟨_,_,_,p⟩:=x; exact p.lt
 | dK kvs=>obtain ⟨_,_,_,_,o,_,_,e,_⟩:=x; exact zt e
 | dT kvs=>obtain ⟨_,_,_,_,o,_,_,e,_⟩:=x; exact zt e
 | set S n=>obtain ⟨o,_,_,_,e,_⟩:=x; exact zt e
 | ins C dx fs=>obtain ⟨_,_,_,e,_⟩:=x; exact zt e
 | own y=>obtain ⟨_,e⟩:=x; exact zt e
 | xd fs=>obtain ⟨_,⟨_,_,_,e,_⟩,_⟩:=x; exact zt e
 | rng lo hi=>obtain ⟨_,_,_,e⟩:=x; exact zt e
 | frz ob u=>obtain ⟨e,_⟩:=x; exact zt e
 | tbl ps=>exact zt (show h.get? a=some _ from x)
 | met f y=>exact zt (show h.get? a=some _ from x)
 | ext φ=>obtain ⟨_,⟨_,e⟩,_⟩:=x; exact zt e
theorem Paired.mapP {α β:Type} {F G:α→β→Prop}:∀ {l₁:List α} {l₂:List β},Paired F l₁ l₂→(∀ a b,F a b→G a b)→Paired G l₁ l₂:=by
 intro l₁ l₂ h f
 induction h with
 | nil=>exact .nil
 | cons r t ih=>exact .cons (f _ _ r) ih
theorem bQ.stay (x:bQ P w H h a o) (k:∀ b u,(b=a∨H b=some (.own a))→h.get? b=some u→h'.get? b=some u)
  (ho:∀ b,H b=some (.own a)→H' b=some (.own a)) (ht:∀ b xs,H b=some (.tup xs)→H' b=some (.tup xs)):bQ P w H' h' a o:=by
 induction o with
 | lst xs=>obtain ⟨z,its,n,r,e⟩:=x; exact ⟨z,its,n,r,k _ _ (.inl rfl) e⟩
 | tup xs=>obtain ⟨z,its,r,ob,e,c⟩:=x; exact ⟨z,its,r,ob,k _ _ (.inl rfl) e,c⟩
 | dK kvs=>obtain ⟨z,y,vs,r,ob,es,ep,e,c⟩:=x; exact ⟨z,y,vs,r,ob,es,ep,k _ _ (.inl rfl) e,c⟩
 | dT kvs =>
  obtain ⟨z,y,xs,r,ob,es,ep,e,c⟩:=x
  exact ⟨z,y,xs,Paired.mapP r fun p q z=>⟨z.1,ht _ _ z.2.1,z.2.2⟩,ob,es,ep,k _ _ (.inl rfl) e,c⟩
 | set S n=>obtain ⟨ob,es,ep,t,e,c⟩:=x; exact ⟨ob,es,ep,t,k _ _ (.inl rfl) e,c⟩
 | ins C dx fs =>
  obtain ⟨d,z,ne,e,mA,⟨od,es,ep,e2,c⟩,r,wi⟩:=x
  exact ⟨ho _ d,z,ne,k _ _ (.inl rfl) e,mA,⟨od,es,ep,k _ _ (.inr d) e2,c⟩,r,wi⟩
 | own y=>obtain ⟨ob,e⟩:=x; exact ⟨ob,k _ _ (.inl rfl) e⟩
 | xd fs=>obtain ⟨mA,⟨od,es,ep,e,c⟩,r⟩:=x; exact ⟨mA,⟨od,es,ep,k _ _ (.inl rfl) e,c⟩,r⟩
 | rng lo hi=>obtain ⟨t,u,v,e⟩:=x; exact ⟨t,u,v,k _ _ (.inl rfl) e⟩
 | frz ob u ih=>obtain ⟨e,q⟩:=x; exact ⟨k _ _ (.inl rfl) e,ih q⟩
 | tbl ps =>
  have e:h.get? a=some { cls:=.none,data:=.fields ps }:=x
  show h'.get? a=some { cls:=.none,data:=.fields ps }
  exact k a _ (.inl rfl) e
 | met f y =>
  have e:h.get? a=some (m6 (.ref f) (.ref y)):=x
  show h'.get? a=some (m6 (.ref f) (.ref y))
  exact k a _ (.inl rfl) e
 | ext φ=>obtain ⟨p,⟨o,e⟩,st⟩:=x; exact ⟨st _ _ p fun o q=>k _ _ (.inl rfl) q,⟨o,k _ _ (.inl rfl) e⟩,st⟩
theorem HOk.lt (x:HOk P w H h) (e:H a=some o):a < h.objs.size:=(x a o e).lt
theorem HOk.fresh (x:HOk P w H h) (e:h.objs.size≤a):H a=none:=by
 cases q:H a with
 | none=>rfl
 | some u=>exact absurd (zm (x.lt q) e) (v7 _)
theorem HOk.kept (x:HOk P w H h) (k:∀ b u,h.get? b=some u→h'.get? b=some u):HOk P w H h':=fun a o e =>
 (x a o e).stay (fun b u _ q=>k b u q) (fun _ q=>q) fun _ _ q=>q
theorem HOk.laid (x:HOk P w H h) (k:∀ b u,h.get? b=some u→h'.get? b=some u) (hp:h.objs.size≤a) (new:bQ P w (upd H a o) h' a o):HOk P w (upd H a o) h':=fun b u e=>by
 have hn:=x.fresh hp
 by_cases hb:b=a
 ·subst hb; rw [ai] at e; (injection e with e; subst e); exact new
 ·rw [ah hb] at e
  exact (x b u e).stay (fun c v _ q=>k c v q) (fun c q=>by rw [ah (bg q hn)]; exact q) fun c xs q=>by rw [ah (bg q hn)]; exact q
end
noncomputable def Rd (H:Hp) (a:Addr) (u:HO):Prop:=H a=some u∨∃ o,H a=some (.frz o u)
theorem Rd.ok {P:yp} {w:World} {H:Hp} {h:Heap} {a:Addr} {u:HO} (r:Rd H a u) (x:HOk P w H h):bQ P w H h a u:=by
 rcases r with r | ⟨o,r⟩
 ·exact x a u r
 ·obtain ⟨_,q⟩:=x a _ r
  exact q
noncomputable def Mut:Option HO→Prop
 | some (.lst _)=>True
 | some (.dK _)=>True
 | some (.dT _)=>True
 | some (.set _ _)=>True
 | some (.ins _ _ _)=>True
 | some (.ext _)=>True
 | _=>False
section
variable {P:yp} {w:World} {H:Hp} {h h':Heap} {x e:Addr} {o':HO}
theorem HOk.write (ok:HOk P w H h) (mu:Mut (H x)) (he:e=x∨H e=some (.own x)) (k:∀ b u,b≠e→h.get? b=some u→h'.get? b=some u) (heo:∃ u,h'.get? e=some u)
  (new:bQ P w (upd H x o') h' x o'):HOk P w (upd H x o') h':=fun b u q=>by
 have nown:∀ c y,H c=some (.own y)→c≠x:=fun c y r z=>by subst z; rw [r] at mu; exact mu
 have ntup:∀ c xs,H c=some (.tup xs)→c≠x:=fun c xs r z=>by subst z; rw [r] at mu; exact mu
 by_cases hb:b=x
 ·subst hb; rw [ai] at q; (injection q with q; subst q); exact new
 ·rw [ah hb] at q
  by_cases hbe:b=e
  ·have q':H b=some (.own x):=by
    rcases he with z | z
    ·exact absurd (hbe.trans z) hb
    ·rw [hbe]; exact z
   rw [q] at q'; (injection q' with q'; subst q')
   obtain ⟨v,hv⟩:=heo
   exact ⟨v,by rw [hbe]; exact hv⟩
  ·refine (ok b u q).stay (fun c v hc r=>k c v ?_ r) (fun c r=>by rw [ah (nown c b r)]; exact r) fun c xs r=>by rw [ah (ntup c xs r)]; exact r
   rcases hc with rfl | hc
   ·exact hbe
   ·rintro rfl
    rcases he with z | z
    ·exact nown c b hc z
    ·rw [hc] at z; (injection z with z; injection z with z; subst z); exact hb rfl
end
structure Un (fs ex:List Addr) (H H':Hp) (h h':Heap):Prop where
 keep:∀ b o,h.get? b=some o→H b=none→b∉fs→b∉ex→h'.get? b=some o
 slot:∀ b o,h.get? b=some o→H b=none→b∈fs→b∉ex→∃ sl,h'.get? b=some { o with slots:=sl }
 free:∀ b o,h.get? b=some o→H b=none→b∉ex→H' b=none
 there:∀ b o,h.get? b=some o→b∉ex→∃ o',h'.get? b=some o'
 tups:∀ b xs,H b=some (.tup xs)→H' b=some (.tup xs)
 frzs:∀ b o u,H b=some (.frz o u)→H' b=some (.frz o u)
 tbls:∀ b ps,H b=some (.tbl ps)→∃ more,H' b=some (.tbl (ps++more))
section
variable {fs fs' ex ex':List Addr} {H H1 H2:Hp} {h h1 h2 h':Heap} {a x e:Addr} {o:HO}
theorem Un.any (u:Un fs ex H H1 h h1) {b:Addr} {ob:Obj} (q:h.get? b=some ob) (n:H b=none) (hx:b∉ex):∃ sl,h1.get? b=some { ob with slots:=sl }:=by
 by_cases hb:b∈fs
 ·exact u.slot b ob q n hb hx
 ·exact ⟨ob.slots,u.keep b ob q n hb hx⟩
theorem Un.kept (k:∀ b u,h.get? b=some u→h'.get? b=some u):Un fs ex H H h h' :=
 ⟨fun b ob q _ _ _=>k b ob q,fun b ob q _ _ _=>⟨ob.slots,k b ob q⟩,fun _ _ _ n _=>n,fun b ob q _=>⟨ob,k b ob q⟩,fun _ _ q=>q,fun _ _ _ q=>q,fun _ ps q=>⟨#[],by rw [q]; simp⟩⟩
theorem Un.refl:Un fs ex H H h h:=Un.kept fun _ _ q=>q
theorem Un.laid (k:∀ b u,h.get? b=some u→h'.get? b=some u) (hp:h.objs.size≤a) (hn:H a=none):Un fs ex H (upd H a o) h h' where
 keep:=fun b u q _ _ _=>k b u q
 slot:=fun b u q _ _ _=>⟨u.slots,k b u q⟩
 free:=fun b u q n _=>by rw [ah (yh (zm (zt q) hp))]; exact n
 there:=fun b u q _=>⟨u,k b u q⟩
 tups:=fun b xs q=>by rw [ah (bg q hn)]; exact q
 frzs:=fun b u xs q=>by rw [ah (bg q hn)]; exact q
 tbls:=fun b ps q=>⟨#[],by rw [ah (bg q hn),q]; simp⟩
theorem Un.write (mu:Mut (H x)) (he:e=x∨H e=some (.own x)) (k:∀ b u,b≠e→h.get? b=some u→h'.get? b=some u) (heo:∃ u,h'.get? e=some u):Un fs ex H (upd H x o) h h':=by
 have hx:∀ b,H b=none→b≠x:=fun b n z=>by subst z; rw [n] at mu; exact mu
 have hb:∀ b,H b=none→b≠e:=fun b n z=>by
  subst z
  rcases he with r | r
  ·exact hx b n r
  ·rw [n] at r; injection r
 have hm:∀ b u,H b=some u→¬ Mut (some u)→b≠x:=fun b u q nm z=>by subst z; rw [q] at mu; exact nm mu
 refine ⟨fun b u q n _ _=>k b u (hb b n) q,fun b u q n _ _=>⟨u.slots,k b u (hb b n) q⟩,fun b u q n _=>by rw [ah (hx b n)]; exact n,fun b u q _=>?_,
  fun b xs q=>by rw [ah (hm b _ q fun z=>z)]; exact q,fun b u xs q=>by rw [ah (hm b _ q fun z=>z)]; exact q,fun b ps q=>⟨#[],by rw [ah (hm b _ q fun z=>z),q]; simp⟩⟩
 by_cases hbe:b=e
 ·subst hbe; exact heo
 ·exact ⟨u,k b u hbe q⟩
end
noncomputable def trk (h:Heap) (H:Hp):List Addr:=(vw h.objs.size).filter fun a=>(H a).isSome
noncomputable def hidT (h:Heap) (H:Hp):Heap:=PySem.W.hideAll h (trk h H)
theorem hidT_size (h:Heap) (H:Hp):(hidT h H).objs.size=h.objs.size:=PySem.W.hideAll_size _ _
theorem hidT_get {h:Heap} {H:Hp} {b:Addr} {o:Obj} (e:h.get? b=some o) (n:H b=none):(hidT h H).get? b=some o :=
 PySem.W.hideAll_get _ e fun hm=>by
  have q:(H b).isSome=true:=(qt.mp hm).2
  rw [n] at q; simp at q
theorem of_hidT {h:Heap} {H:Hp} {b:Addr} {o:Obj} (e:(hidT h H).get? b=some o):h.get? b=some o∧H b=none:=by
 have e':h.get? b=some o:=PySem.W.of_hideAll (trk h H) e
 refine ⟨e', ?_⟩
 cases q:H b with
 | none=>rfl
 | some x =>
  have hm:b∈trk h H:=qt.mpr ⟨tw.mpr (zt e'),by simp [q]⟩
  have z:(hidT h H).get? b=none:=PySem.W.hideAll_none (trk h H) hm
  rw [z] at e; injection e
end L2
namespace L2
open PySem PySem.Spec PyProof.Rows
structure Mod (K:ze) (mg:Str→Option Value) (base:Heap):Prop where
 kin:K.In base
 glob:base.Ns y7 mg
 blt : ∃ mb, base.Ns builtinsNs mb ∧ ∀ x : Str, x ≠ "__name__" → mb x = yr x
 nolimit:base.NoLimit
structure Cx where
 prog:yp
 w:World
 K:ze
 mg:Str→Option Value
 base:Heap
 A:Around
 N:List Str
 s₀:Shared
 H₀:Hp
 env:Env
 outer:List Env
 stack:List Env
 ex:List Addr
 fn:Str→Bool
 calm:Bool
 pn:List (Addr × Obj)
 xe:Value→Shared→Prop
noncomputable def frs (l:List Env):List Addr:=l.filterMap (·.frame)
noncomputable abbrev Cx.fs (X:Cx):List Addr:=frs X.outer
noncomputable def Vis (sc:Scope) (x:Str):Prop:=sc.names.lookup x=some .local∨sc.names.lookup x=some .cell∨sc.names.lookup x=some .free
noncomputable def Loc (sc:Scope) (x:Str):Prop:=sc.names.lookup x=some .local∨sc.names.lookup x=some .cell
noncomputable def Look (env:Env) (h:Heap) (m:Str→Option Value) (x:Str) (u:Value):Prop :=
 (env.kindOf x=some .local∧m x=some u)∨((env.kindOf x=some .cell∨env.kindOf x=some .free)∧∃ c,env.cells.lookup x=some c∧h.IsCell c (some u))
structure Cx.Ok (X:Cx):Prop where
 mod:Mod X.K X.mg X.base
 kind:X.env.scope.kind=.function
 glob:X.env.globals=y7
 blt:X.env.builtins=builtinsNs
 above:X.s₀.heap.objs.size≤X.env.locals
 inj:∀ x y c,X.env.cells.lookup x=some c→X.env.cells.lookup y=some c→x=y
 has:∀ x,(X.env.kindOf x=some .cell∨X.env.kindOf x=some .free)→∃ c,X.env.cells.lookup x=some c
 cab:∀ x c,X.fn x=true→X.env.cells.lookup x=some c→X.s₀.heap.objs.size≤c
 hd:X.calm=true→X.A.handled=none
 frames:X.A.frames=some X.stack
 stk:X.stack=X.outer∨(X.stack=X.env::X.outer∧X.env.frame=some X.env.locals)
 exf:∀ b∈X.ex,b≠X.env.locals∧∀ x c,X.env.cells.lookup x=some c→c≠b
 bs:∀ b o,X.base.get? b=some o→X.s₀.heap.get? b=some o∧X.H₀ b=none
 bsz:X.base.objs.size≤X.s₀.heap.objs.size
 noex:∀ b o,X.base.get? b=some o→b∉X.ex
 exfs:∀ b∈X.ex,b∉X.fs
 funs:X.s₀.heap.FunFrames X.base X.outer
 frf:∀ b∈X.fs,X.H₀ b=none
structure Inv (X:Cx) (pins:List (Addr × Obj)) (σ:List (Option V)) (H:Hp) (s:Shared):Prop where
 ok:X.Ok
 os:s.os=X.s₀.os
 bare:me s.gens
 base:Un X.fs X.ex X.H₀ H X.s₀.heap s.heap
 loc:∃ m,s.heap.Ns X.env.locals m∧∀ (i:Nat) (x:Str) (v:V),X.N[i]?=some x→σ[i]?=some (some v)→Vis X.env.scope x→∃ u,RelV v u∧Look X.env s.heap m x u
 cell:∀ x c,X.env.cells.lookup x=some c→∃ v,s.heap.IsCell c v
 free:H X.env.locals=none
 freeC:∀ x c,X.env.cells.lookup x=some c→H c=none
 pin:∀ p∈X.pn++pins,s.heap.get? p.1=some p.2∧H p.1=none∧p.1≠X.env.locals∧p.1∉X.fs∧∀ v,p.2.data ≠ .cell v
 hok:HOk X.prog X.w H s.heap
 len:σ.length=X.N.length
section
variable {X:Cx} {pins:List (Addr × Obj)} {σ:List (Option V)} {H H':Hp} {s:Shared} {h':Heap}
theorem Cx.Ok.nofr (ok:X.Ok) {b:Addr} {o:Obj} (e:X.base.get? b=some o):b∉X.fs:=fun hb=>by
 have:=(ok.funs.mem hb).1
 rw [e] at this; injection this
theorem Inv.bs (I:Inv X pins σ H s):∀ b o,X.base.get? b=some o→s.heap.get? b=some o∧H b=none:=fun b o e =>
 ⟨I.base.keep b o (I.ok.bs b o e).1 (I.ok.bs b o e).2 (I.ok.nofr e) (I.ok.noex b o e),I.base.free b o (I.ok.bs b o e).1 (I.ok.bs b o e).2 (I.ok.noex b o e)⟩
theorem Inv.bk (I:Inv X pins σ H s):∀ b o,X.base.get? b=some o→s.heap.get? b=some o:=fun b o e=>(I.bs b o e).1
theorem Inv.mod (I:Inv X pins σ H s):Mod X.K X.mg X.base:=I.ok.mod
theorem Inv.kIn (I:Inv X pins σ H s):X.K.In s.heap:=I.ok.mod.kin.keeps I.bk
theorem Inv.lt (I:Inv X pins σ H s):X.env.locals < s.heap.objs.size:=let ⟨_,hn,_⟩:=I.loc; hn.lt
theorem Inv.sz (I:Inv X pins σ H s):X.s₀.heap.objs.size≤s.heap.objs.size:=z5 I.ok.above (xn I.lt)
theorem Inv.nofs (I:Inv X pins σ H s) {a:Addr} (h:s.heap.objs.size≤a):a∉X.fs:=fun hb=>by
 obtain ⟨_,o,ho,_⟩:=I.ok.funs.mem hb
 exact absurd (zm (zt ho) (z5 I.sz h)) (v7 _)
theorem Inv.cne (I:Inv X pins σ H s):∀ x c,X.env.cells.lookup x=some c→c≠X.env.locals:=fun x c e z=>by
 obtain ⟨v,o,ho,hd⟩:=I.cell x c e
 obtain ⟨m,⟨o',es,ep,ho',hd',_⟩,_⟩:=I.loc
 rw [z,ho'] at ho; (injection ho with ho; subst ho); rw [hd'] at hd; injection hd
theorem Inv.funs (I:Inv X pins σ H s):s.heap.FunFrames X.base X.outer:=by
 have all:∀ (l:List Env),(∀ b∈frs l,b∈X.fs)→X.s₀.heap.FunFrames X.base l→s.heap.FunFrames X.base l:=by
  intro l
  induction l with
  | nil=>intro _ _; trivial
  | cons env r ih =>
   intro hs hl
   obtain ⟨hk,⟨L,o,hf,hn,ho,hd⟩,hr⟩:=hl
   have hL:L∈X.fs:=hs L (by unfold frs; rw [oq,hf]; exact za)
   obtain ⟨sl,e⟩:=I.base.slot L o ho (I.ok.frf L hL) hL fun z=>I.ok.exfs L z hL
   exact ⟨hk,⟨L,_,hf,hn,e,hd⟩,ih (fun b hb=>hs b (by unfold frs; rw [oq,hf]; exact z8 _ hb)) hr⟩
 exact all X.outer (fun _ hb=>hb) I.ok.funs
theorem Inv.stack (I:Inv X pins σ H s):s.heap.FunFrames X.base X.stack:=by
 rcases I.ok.stk with e | ⟨e,hf⟩
 ·rw [e]; exact I.funs
 ·rw [e]
  obtain ⟨m,hn,_⟩:=I.loc
  refine .cons (by rw [I.ok.kind]; decide) hf hn ?_ I.funs
  exact Heap.get?_none_of_le (z5 I.ok.bsz I.ok.above)
theorem Inv.stkSub (I:Inv X pins σ H s):∀ b∈frs X.stack,b∈X.env.locals::X.fs:=fun b hb=>by
 rcases I.ok.stk with e | ⟨e,hf⟩
 ·rw [e] at hb; exact z8 _ hb
 ·rw [e] at hb
  unfold frs at hb
  rw [oq,hf] at hb
  exact hb
theorem Inv.stkFree (I:Inv X pins σ H s):∀ b∈frs X.stack,H b=none:=fun b hb=>by
 rcases y6.mp (I.stkSub b hb) with e | hb
 ·rw [e]; exact I.free
 ·obtain ⟨_,o,ho,_⟩:=I.ok.funs.mem hb
  exact I.base.free b o ho (I.ok.frf b hb) fun z=>I.ok.exfs b z hb
theorem Inv.step {g':Array GenState} {t':Nat} {d':Drawn} {ch:List Addr} (I:Inv X pins σ H s)
  (hch:∀ b∈ch,(b∈X.ex∨X.s₀.heap.objs.size≤b)∧b≠X.env.locals∧(∀ x c,X.env.cells.lookup x=some c→c≠b)∧∀ p∈X.pn++pins,p.1≠b)
  (keep:∀ b o,b≠X.env.locals→b∉X.fs→b∉ch→s.heap.get? b=some o→H b=none→h'.get? b=some o)
  (slot:∀ b o,b≠X.env.locals→b∈X.fs→b∉ch→s.heap.get? b=some o→H b=none→∃ sl,h'.get? b=some { o with slots:=sl }) (free:∀ b o,b∉ch→s.heap.get? b=some o→H b=none→H' b=none)
  (there:∀ b o,b∉ch→s.heap.get? b=some o→∃ o',h'.get? b=some o')
  (tups:∀ b xs,H b=some (.tup xs)→H' b=some (.tup xs)) (frzs:∀ b o u,H b=some (.frz o u)→H' b=some (.frz o u)) (tbls:∀ b ps,H b=some (.tbl ps)→∃ more,H' b=some (.tbl (ps++more)))
  (ns:∀ m,s.heap.Ns X.env.locals m→h'.Ns X.env.locals m) (hok:HOk X.prog X.w H' h') (hg:me g') :
  Inv X pins σ H' { s with heap:=h',gens:=g',drawn:=d',toks:=t' }:=by
 have neL:∀ b o,X.s₀.heap.get? b=some o→b≠X.env.locals:=fun b o e=>yh (zm (zt e) I.ok.above)
 have neC:∀ b o,X.s₀.heap.get? b=some o→b∉X.ex→b∉ch:=fun b o e hx hb=>by
  rcases (hch b hb).1 with z | z
  ·exact hx z
  ·exact absurd (zm (zt e) z) (v7 _)
 have cellK:∀ x c,X.env.cells.lookup x=some c→∀ v,s.heap.IsCell c v→h'.IsCell c v:=fun x c e v ⟨o,ho,hd⟩=>by
  have nch:c∉ch:=fun z=>(hch c z).2.2.1 x c e rfl
  by_cases hc:c∈X.fs
  ·obtain ⟨sl,q⟩:=slot c o (I.cne x c e) hc nch ho (I.freeC x c e)
   exact ⟨_,q,hd⟩
  ·exact ⟨o,keep c o (I.cne x c e) hc nch ho (I.freeC x c e),hd⟩
 refine ⟨I.ok,I.os,hg,⟨fun b o e n hb hx=>?_,fun b o e n hb hx=>?_,fun b o e n hx=>?_,fun b o e hx=>?_,fun b xs e=>tups b xs (I.base.tups b xs e),fun b o xs e=>frzs b o xs (I.base.frzs b o xs e),fun b ps e=>?_⟩, ?_,fun x c e=>?_, ?_,fun x c e=>?_,fun p hp=>?_,hok,I.len⟩
 ·exact keep b o (neL b o e) hb (neC b o e hx) (I.base.keep b o e n hb hx) (I.base.free b o e n hx)
 ·obtain ⟨sl,e1⟩:=I.base.slot b o e n hb hx
  obtain ⟨sl',e2⟩:=slot b _ (neL b o e) hb (neC b o e hx) e1 (I.base.free b o e n hx)
  exact ⟨sl',e2⟩
 ·obtain ⟨o',e1⟩:=I.base.there b o e hx
  exact free b o' (neC b o e hx) e1 (I.base.free b o e n hx)
 ·obtain ⟨o',e1⟩:=I.base.there b o e hx
  exact there b o' (neC b o e hx) e1
 ·obtain ⟨m1,e1⟩:=I.base.tbls b ps e
  obtain ⟨m2,e2⟩:=tbls b _ e1
  exact ⟨m1++m2,by rw [e2,Array.append_assoc]⟩
 ·obtain ⟨m,hn,hl⟩:=I.loc
  refine ⟨m,ns m hn,fun i x v e1 e2 e3=>?_⟩
  obtain ⟨u,r,l⟩:=hl i x v e1 e2 e3
  refine ⟨u,r, ?_⟩
  rcases l with l | ⟨k,c,e,z⟩
  ·exact .inl l
  ·exact .inr ⟨k,c,e,cellK x c e _ z⟩
 ·obtain ⟨v,z⟩:=I.cell x c e
  exact ⟨v,cellK x c e v z⟩
 ·obtain ⟨m,⟨o,_,_,ho,_⟩,_⟩:=I.loc
  exact free _ o (fun z=>(hch _ z).2.1 rfl) ho I.free
 ·obtain ⟨v,o,ho,hd⟩:=I.cell x c e
  exact free c o (fun z=>(hch c z).2.2.1 x c e rfl) ho (I.freeC x c e)
 ·obtain ⟨e,n,ne,nf,d⟩:=I.pin p hp
  have nch:p.1∉ch:=fun z=>(hch p.1 z).2.2.2 p hp rfl
  exact ⟨keep p.1 p.2 ne nf nch e n,free p.1 p.2 nch e n,ne,nf,d⟩
theorem Inv.un {t':Nat} (I:Inv X pins σ H s) (u:Un X.fs [] H H' s.heap h') (hok:HOk X.prog X.w H' h'):Inv X pins σ H' { s with heap:=h',toks:=t' }:=by
 obtain ⟨m,⟨o,es,ep,ho,r⟩,_⟩:=id I.loc
 obtain ⟨sl,hL⟩:=u.any ho I.free (by simp)
 exact I.step (g':=s.gens) (d':=s.drawn) (ch:=[]) (fun _ z=>nomatch z) (fun b o _ hb _ e n=>u.keep b o e n hb (by simp)) (fun b o _ hb _ e n=>u.slot b o e n hb (by simp)) (fun b o _ e n=>u.free b o e n (by simp)) (fun b o _ e=>u.there b o e (by simp)) u.tups u.frzs u.tbls (fun m' hm=>by
  obtain ⟨o',es',ep',ho',r'⟩:=hm
  rw [ho] at ho'; (injection ho' with ho'; subst ho')
  exact ⟨_,es',ep',hL,r'⟩) hok I.bare
theorem Inv.call {g':Array GenState} {t':Nat} {d':Drawn} {ch:List Addr} (I:Inv X pins σ H s) (u:Un (frs X.stack) ch H H' s.heap h') (hok:HOk X.prog X.w H' h') (hg:me g')
  (hch:∀ b∈ch,(b∈X.ex∨X.s₀.heap.objs.size≤b)∧b≠X.env.locals∧(∀ x c,X.env.cells.lookup x=some c→c≠b)∧∀ p∈X.pn++pins,p.1≠b) :
  Inv X pins σ H' { s with heap:=h',gens:=g',drawn:=d',toks:=t' }:=by
 obtain ⟨m,⟨o,es,ep,ho,r⟩,_⟩:=id I.loc
 obtain ⟨sl,hL⟩:=u.any ho I.free fun z=>(hch _ z).2.1 rfl
 exact I.step (ch:=ch) hch (fun b o hL hb hc e n=>u.keep b o e n (fun z=>(y6.mp (I.stkSub b z)).elim hL hb) hc) (fun b o _ _ hc e n=>u.any e n hc) (fun b o hc e n=>u.free b o e n hc) (fun b o hc e=>u.there b o e hc) u.tups u.frzs u.tbls (fun m' hm=>by
  obtain ⟨o',es',ep',ho',r'⟩:=hm
  rw [ho] at ho'; (injection ho' with ho'; subst ho')
  exact ⟨_,es',ep',hL,r'⟩) hok hg
theorem Inv.turned {t':Nat} {it:Addr} (I:Inv X pins σ H s) (k:∀ b o,b≠it→s.heap.get? b=some o→h'.get? b=some o) (hn:H it=none) (hL:it≠X.env.locals)
  (h1:it∈X.ex∨X.s₀.heap.objs.size≤it) (h2:∀ x c,X.env.cells.lookup x=some c→c≠it) (h3:∀ p∈X.pn++pins,p.1≠it):Inv X pins σ H { s with heap:=h',toks:=t' }:=by
 have nit:∀ b u,H b=some u→b≠it:=fun b u e z=>by rw [z,hn] at e; injection e
 refine I.step (g':=s.gens) (d':=s.drawn) (ch:=[it]) (fun b hb=>?_) (fun b o _ _ hc e _=>k b o (fun z=>hc (by simp [z])) e) (fun b o _ _ hc e _=>⟨o.slots,k b o (fun z=>hc (by simp [z])) e⟩) (fun _ _ _ _ n=>n)
  (fun b o hc e=>⟨o,k b o (fun z=>hc (by simp [z])) e⟩) (fun _ _ e=>e) (fun _ _ _ e=>e) (fun b ps e=>⟨#[],by rw [e]; simp⟩) (fun m hm=>?_) (fun b u e=>?_) I.bare
 ·have e:b=it:=by simpa using hb
  subst e
  exact ⟨h1,hL,h2,h3⟩
 ·obtain ⟨o,es,ep,ho,r⟩:=hm
  exact ⟨o,es,ep,k _ o (wt hL) ho,r⟩
 ·refine (I.hok b u e).stay (fun c v hc q=>k c v ?_ q) (fun _ q=>q) fun _ _ q=>q
  rcases hc with z | z
  ·rw [z]; exact nit b u e
  ·exact nit c _ z
theorem Inv.tok (I:Inv X pins σ H s) (t:Nat):Inv X pins σ H { s with toks:=t }:=I.un (h':=s.heap) (t':=t) Un.refl I.hok
theorem Inv.kept {t':Nat} (I:Inv X pins σ H s) (k:∀ b u,s.heap.get? b=some u→h'.get? b=some u):Inv X pins σ H { s with heap:=h',toks:=t' }:=I.un (Un.kept k) (I.hok.kept k)
theorem Inv.laid {a:Addr} {o:HO} {t':Nat} (I:Inv X pins σ H s) (k:∀ b u,s.heap.get? b=some u→h'.get? b=some u) (hp:s.heap.objs.size≤a) (new:bQ X.prog X.w (upd H a o) h' a o) :
  Inv X pins σ (upd H a o) { s with heap:=h',toks:=t' }:=I.un (Un.laid k hp (I.hok.fresh hp)) (I.hok.laid k hp new)
theorem Inv.write {x e:Addr} {o:HO} {t':Nat} (I:Inv X pins σ H s) (mu:Mut (H x)) (he:e=x∨H e=some (.own x)) (k:∀ b u,b≠e→s.heap.get? b=some u→h'.get? b=some u) (heo:∃ u,h'.get? e=some u)
  (new:bQ X.prog X.w (upd H x o) h' x o):Inv X pins σ (upd H x o) { s with heap:=h',toks:=t' }:=I.un (Un.write mu he k heo) (I.hok.write mu he k heo new)
theorem Inv.pins_of {pins':List (Addr × Obj)} (I:Inv X pins σ H s) (h:∀ p∈pins',s.heap.get? p.1=some p.2∧H p.1=none∧p.1≠X.env.locals∧p.1∉X.fs∧∀ v,p.2.data ≠ .cell v):Inv X pins' σ H s :=
 ⟨I.ok,I.os,I.bare,I.base,I.loc,I.cell,I.free,I.freeC,fun p hp=>(y2.mp hp).elim (fun z=>I.pin p (zk _ z)) (h p),I.hok,I.len⟩
theorem nodup_ix {N:List Str} (hN:N.Nodup) {i j:Nat} {x:Str} (a:N[i]?=some x) (b:N[j]?=some x):i=j:=by
 obtain ⟨h1,e1⟩:=yi.mp a
 obtain ⟨h2,e2⟩:=yi.mp b
 exact (List.getElem_inj hN).mp (e1.trans e2.symm)
theorem store_ok2 {M:Model} {A:Around} {E:Value→Shared→Prop} {i:Nat} {x:Str} {v:V} {u:Value} {Q:Unit→Shared→Prop} (I:Inv X pins σ H s) (hN:X.N.Nodup) (hi:X.N[i]?=some x) (hx:Loc X.env.scope x) (r:RelV v u)
  (h:∀ s',Inv X pins (σ.set i (some v)) H s'→(∃ a,t3 a s.heap s'.heap∧(a=X.env.locals∨X.env.cells.lookup x=some a))→Q () s') (hf:X.fn x=true∨X.env.scope.names.lookup x=some .local:=by first | exact .inl rfl | exact .inr rfl | assumption):wpAny M A (storeName X.env x u) Q E s:=by
 obtain ⟨m,hn,hl⟩:=id I.loc
 have hcls:(X.env.scope.kind == .class || (X.env.scope.kind == .module && X.env.locals != X.env.globals))=false:=by rw [I.ok.kind]; rfl
 have hiσ:i < σ.length:=by rw [I.len]; exact (yi.mp hi).1
 have cne:=I.cne
 have tracked:∀ {a:Addr} {h':Heap},(∃ o,s.heap.get? a=some o∧H a=none)→t3 a s.heap h'→HOk X.prog X.w H h':=fun {a h'} ha hs b ob e=>by
  obtain ⟨_,_,hfree⟩:=ha
  refine (I.hok b ob e).stay (fun c w' hc q=>(hs.2 c ?_).trans q) (fun _ q=>q) fun _ _ q=>q
  rintro rfl
  rcases hc with rfl | hc
  ·rw [hfree] at e; injection e
  ·rw [hfree] at hc; injection hc
 rcases hx with hk | hk
 ·refine wpAny_storeName_local hk hn (fun h' hn' hs=>?_) hcls
  obtain ⟨oL,_,_,hoL,_⟩:=id hn
  refine h _ ⟨I.ok,I.os,I.bare,⟨fun b o e n hb hx=>?_,fun b o e n hb hx=>?_,I.base.free,fun b o e hx=>?_,I.base.tups,I.base.frzs,I.base.tbls⟩,⟨_,hn',fun j y v' e1 e2 e3=>?_⟩,fun y c e=>?_,I.free,I.freeC,fun p hp=>?_,tracked ⟨oL,hoL,I.free⟩ hs,by simpa using I.len⟩ ⟨_,hs,.inl rfl⟩
  ·exact (hs.2 b (yh (zm (zt e) I.ok.above))).trans (I.base.keep b o e n hb hx)
  ·obtain ⟨sl,e1⟩:=I.base.slot b o e n hb hx
   exact ⟨sl,(hs.2 b (yh (zm (zt e) I.ok.above))).trans e1⟩
  ·obtain ⟨o',e1⟩:=I.base.there b o e hx
   exact ⟨o',(hs.2 b (yh (zm (zt e) I.ok.above))).trans e1⟩
  ·by_cases hj:j=i
   ·subst hj
    rw [hi] at e1; (injection e1 with e1; subst e1)
    rw [vn hiσ] at e2
    (injection e2 with e2; injection e2 with e2; subst e2)
    exact ⟨u,r,.inl ⟨hk,by simp⟩⟩
   ·rw [yu (wt hj)] at e2
    obtain ⟨u',r',q⟩:=hl j y v' e1 e2 e3
    refine ⟨u',r', ?_⟩
    rcases q with ⟨k,e⟩ | ⟨k,c,e,z⟩
    ·refine .inl ⟨k, ?_⟩
     have:y≠x:=fun e=>hj (nodup_ix hN e1 (e ▸ hi))
     simp [this,e]
    ·exact .inr ⟨k,c,e,z.sameBut hs (cne y c e)⟩
  ·obtain ⟨w',z⟩:=I.cell y c e
   exact ⟨w',z.sameBut hs (cne y c e)⟩
  ·obtain ⟨e,n,ne,nf,d⟩:=I.pin p hp
   exact ⟨(hs.2 p.1 ne).trans e,n,ne,nf,d⟩
 ·have hfn:X.fn x=true:=by
   rcases hf with z | z
   ·exact z
   ·rw [z] at hk; (injection hk with hk; injection hk)
  obtain ⟨c,hc⟩:=I.ok.has x (.inl hk)
  obtain ⟨w',z⟩:=I.cell x c hc
  refine wpAny_storeName_cell I.ok.kind hk hc z (fun h' hc' hs=>?_)
  obtain ⟨oc,hoc,hocd⟩:=id z
  refine h { s with heap:=h' } ⟨I.ok,I.os,I.bare,⟨fun b o e n hb hx=>?_,fun b o e n hb hx=>?_,I.base.free,fun b o e hx=>?_,I.base.tups,I.base.frzs,I.base.tbls⟩,⟨m,hn.sameBut hs (wt (cne x c hc)),fun j y v' e1 e2 e3=>?_⟩,fun y c' e=>?_,I.free,I.freeC,fun p hp=>?_,tracked ⟨oc,hoc,I.freeC x c hc⟩ hs,by simpa using I.len⟩ ⟨c,hs,.inr hc⟩
  ·exact (hs.2 b (yh (zm (zt e) (I.ok.cab x c hfn hc)))).trans (I.base.keep b o e n hb hx)
  ·obtain ⟨sl,e1⟩:=I.base.slot b o e n hb hx
   exact ⟨sl,(hs.2 b (yh (zm (zt e) (I.ok.cab x c hfn hc)))).trans e1⟩
  ·obtain ⟨o',e1⟩:=I.base.there b o e hx
   exact ⟨o',(hs.2 b (yh (zm (zt e) (I.ok.cab x c hfn hc)))).trans e1⟩
  ·by_cases hj:j=i
   ·subst hj
    rw [hi] at e1; (injection e1 with e1; subst e1)
    rw [vn hiσ] at e2
    (injection e2 with e2; injection e2 with e2; subst e2)
    exact ⟨u,r,.inr ⟨.inl hk,c,hc,hc'⟩⟩
   ·rw [yu (wt hj)] at e2
    obtain ⟨u',r',q⟩:=hl j y v' e1 e2 e3
    refine ⟨u',r', ?_⟩
    rcases q with q | ⟨k,c',e,z'⟩
    ·exact .inl q
    ·refine .inr ⟨k,c',e,z'.sameBut hs ?_⟩
     rintro rfl
     exact hj (nodup_ix hN e1 (I.ok.inj _ _ _ e hc ▸ hi))
  ·by_cases hcc:c'=c
   ·subst hcc; exact ⟨_,hc'⟩
   ·obtain ⟨w2,z2⟩:=I.cell y c' e
    exact ⟨w2,z2.sameBut hs hcc⟩
  ·obtain ⟨e,n,ne,nf,d⟩:=I.pin p hp
   refine ⟨(hs.2 p.1 ?_).trans e,n,ne,nf,d⟩
   intro q
   rw [q,hoc] at e
   have q':oc=p.2:=yy e
   exact d w' (by rw [← q']; exact hocd)
theorem iS {M:Model} {A:Around} {E:Value→Shared→Prop} {i:Nat} {x:Str} {v:V} {u:Value} {Q:Unit→Shared→Prop} (I:Inv X pins σ H s) (hN:X.N.Nodup) (hi:X.N[i]?=some x) (hx:Loc X.env.scope x) (r:RelV v u)
  (h:∀ s',Inv X pins (σ.set i (some v)) H s'→Q () s') (hf:X.fn x=true∨X.env.scope.names.lookup x=some .local:=by first | exact .inl rfl | exact .inr rfl | assumption):wpAny M A (storeName X.env x u) Q E s :=
 store_ok2 I hN hi hx r (fun s' I' _=>h s' I') hf
theorem Inv.call' {s':Shared} {ch:List Addr} (I:Inv X pins σ H s) (ho:s'.os=s.os) (u:Un (frs X.stack) ch H H' s.heap s'.heap) (hok:HOk X.prog X.w H' s'.heap) (hg:me s'.gens)
  (hch:∀ b∈ch,(b∈X.ex∨X.s₀.heap.objs.size≤b)∧b≠X.env.locals∧(∀ x c,X.env.cells.lookup x=some c→c≠b)∧∀ p∈X.pn++pins,p.1≠b):Inv X pins σ H' s':=by
 obtain ⟨h',g',d',t',o'⟩:=s'
 have e:o'=s.os:=ho
 subst e
 exact I.call (g':=g') (t':=t') (d':=d') u hok hg hch
end
noncomputable abbrev XK:=Value→Option Addr→Hp→Prop
noncomputable abbrev St:=List (Option V)
noncomputable abbrev VK:=V→Hp→Prop
noncomputable abbrev TE:=St→Hp→VK→Prop
noncomputable abbrev TT:=St→Hp→(Bool→Hp→Prop)→Prop
noncomputable abbrev TA:=St→Hp→(List V→Hp→Prop)→Prop
structure Ends where
 nx:St→Hp→Prop
 rt:VK
 bk:St→Hp→Prop:=fun _ _=>False
 ct:St→Hp→Prop:=fun _ _=>False
noncomputable abbrev TS:=Ends→St→Hp→Prop
inductive EP (X:Cx) (pins:List (Addr × Obj)) (σ:St) (Q:VK) (u:Value) (s':Shared):Prop
 | mk (v:V) (H':Hp) (I:Inv X pins σ H' s') (r:RelV v u) (q:Q v H')
inductive TP (X:Cx) (pins:List (Addr × Obj)) (σ:St) (Q:Bool→Hp→Prop) (b:Bool) (s':Shared):Prop
 | mk (H':Hp) (I:Inv X pins σ H' s') (q:Q b H')
inductive AP (X:Cx) (pins:List (Addr × Obj)) (σ:St) (Q:List V→Hp→Prop) (us:List Value) (s':Shared):Prop
 | mk (vs:List V) (H':Hp) (I:Inv X pins σ H' s') (r:Vals vs us) (q:Q vs H')
inductive NP (X:Cx) (pins:List (Addr × Obj)) (Q:St→Hp→Prop) (s':Shared):Prop
 | mk (σ':St) (H':Hp) (I:Inv X pins σ' H' s') (q:Q σ' H')
inductive RP (X:Cx) (pins:List (Addr × Obj)) (Q:VK) (u:Value) (s':Shared):Prop
 | mk (v:V) (σ':St) (H':Hp) (I:Inv X pins σ' H' s') (r:RelV v u) (q:Q v H')
noncomputable def SP (X:Cx) (pins:List (Addr × Obj)) (D:Ends) (f:Flow) (s':Shared):Prop :=
 match f with
 | .next=>NP X pins D.nx s'
 | .brk=>NP X pins D.bk s'
 | .cont=>NP X pins D.ct s'
 | .ret u=>RP X pins D.rt u s'
noncomputable def PE (X:Cx) (e:Expr) (t:TE):Prop :=
 ∀ (pins:List (Addr × Obj)) (s:Shared) (σ:St) (H:Hp) (Q:VK),Inv X pins σ H s→t σ H Q→wpAny (model X.prog X.w) X.A (eval e X.env) (EP X pins σ Q) X.xe s
noncomputable def PT (X:Cx) (e:Expr) (t:TT):Prop :=
 ∀ (pins:List (Addr × Obj)) (s:Shared) (σ:St) (H:Hp) (Q:Bool→Hp→Prop),Inv X pins σ H s→t σ H Q→wpAny (model X.prog X.w) X.A (isTrue e X.env (eval e X.env)) (TP X pins σ Q) X.xe s
noncomputable def PW (X:Cx) (e:Expr) (t:TT):Prop :=
 ∀ (whole:Sem Value) (pins:List (Addr × Obj)) (s:Shared) (σ:St) (H:Hp) (Q:Bool→Hp→Prop),Inv X pins σ H s→t σ H Q→wpAny (model X.prog X.w) X.A (isTrue e X.env whole) (TP X pins σ Q) X.xe s
theorem PW.pt {X:Cx} {e:Expr} {t:TT} (h:PW X e t):PT X e t:=h _
noncomputable def PA (X:Cx) (es:List Expr) (t:TA):Prop :=
 ∀ (pos:Pos) (pins:List (Addr × Obj)) (s:Shared) (σ:St) (H:Hp) (Q:List V→Hp→Prop),Inv X pins σ H s→t σ H Q→wpAny (model X.prog X.w) X.A (spliced (backTo pos (zh es X.env))) (AP X pins σ Q) X.xe s
noncomputable def PS (X:Cx) (st:Stmt) (t:TS):Prop :=
 ∀ (pins:List (Addr × Obj)) (s:Shared) (σ:St) (H:Hp) (D:Ends),Inv X pins σ H s→t D σ H→wpAny (model X.prog X.w) X.A (exec st X.env) (SP X pins D) X.xe s
noncomputable def PSs (X:Cx) (st:List Stmt) (t:TS):Prop :=
 ∀ (pins:List (Addr × Obj)) (s:Shared) (σ:St) (H:Hp) (D:Ends),Inv X pins σ H s→t D σ H→wpAny (model X.prog X.w) X.A (execs st X.env) (SP X pins D) X.xe s
theorem thn {α:Type} {t:Sem α} {Q Q':α→Shared→Prop} {M:Model} {A:Around} {E:Value→Shared→Prop} {s:Shared} (h:wpAny M A t Q E s) (hQ:∀ a s,Q a s→Q' a s):wpAny M A t Q' E s:=wu h hQ fun _ _ x=>x
end L2
namespace L2
open PySem PySem.Spec PyProof.Rows
section
variable {X:Cx}
noncomputable def tVar (i:Nat):TE:=fun σ H Q=>∃ v,σ[i]?=some (some v)∧Q v H
noncomputable def tC (v:V):TE:=fun _ H Q=>Q v H
theorem pe_var {i : Nat} {x : Str} {pos : Pos} (hN : X.N[i]? = some x) (hv : Vis X.env.scope x) (hd : (x == ("__debug__" : Str)) = false := by decide) (hcd : (x == ("__classdict__" : Str)) = false := by decide) : PE X (.Name x pos) (tVar i) := by
 intro pins s σ H Q I h
 obtain ⟨v,e,h⟩:=h
 obtain ⟨m,hn,hl⟩:=I.loc
 obtain ⟨u,r,l⟩:=hl i x v hN e hv
 have fin:EP X pins σ Q u s:=⟨v,H,I,r,h⟩
 rcases l with ⟨hk,hm⟩ | ⟨hk,c,hc,hcell⟩
 ·exact wpAny_Name (wpAny_loadName_local I.ok.kind hk hn hm fin) hd
 ·rcases hk with hk | hk
  ·exact wpAny_Name (wpAny_loadName_cell I.ok.kind hk hc hcell fin) hd
  ·exact wpAny_Name (wpAny_loadName_free I.ok.kind hk hc hcell fin hcd) hd
theorem pe_int {i j pos}:PE X (.Constant (.int i) j pos) (tC (.int i)):=fun _ _ _ H _ I h=>wpAny_Constant_int ⟨.int i,H,I.tok _,⟨_,rfl⟩,h⟩
theorem pe_bl {b j pos}:PE X (.Constant (.bool b) j pos) (tC (.bl b)):=fun _ _ _ H _ I h=>Constant_bool ⟨.bl b,H,I,rfl,h⟩
theorem pe_non {j pos}:PE X (.Constant .none j pos) (tC .non):=fun _ _ _ H _ I h=>Constant_none ⟨.non,H,I,rfl,h⟩
noncomputable def Gl (X:Cx) (x:Str):Prop:=X.env.kindOf x=some .globalImplicit
theorem ld_glob {E:Value→Shared→Prop} {pins:List (Addr × Obj)} {s:Shared} {σ:St} {H:Hp} {x:Str} {u:Value} {pos:Pos} {Q:Value→Shared→Prop} (I:Inv X pins σ H s) (hg:Gl X x) (hm:X.mg x=some u) (h:Q u s)
  (hd : (x == ("__debug__" : Str)) = false := by decide) : wpAny (model X.prog X.w) X.A (eval (.Name x pos) X.env) Q E s :=
 Calls.Name_function_global I.ok.kind hg (Calls.loadGlobal_global (by rw [I.ok.glob]; exact I.mod.glob.keeps I.bk) hm h) hd
theorem gM {E:Value→Shared→Prop} {pins:List (Addr × Obj)} {s:Shared} {σ:St} {H:Hp} {x:Str} {u:Value} {pos:Pos} {Q:Value→Shared→Prop} (I:Inv X pins σ H s) (hg:Gl X x) (hm:X.mg x=none) (hv:yr x=some u) (h:Q u s)
  (hn : x ≠ "__name__" := by decide) (hd : (x == ("__debug__" : Str)) = false := by decide) : wpAny (model X.prog X.w) X.A (eval (.Name x pos) X.env) Q E s := by
 obtain ⟨mb,h1,h2⟩:=I.mod.blt
 exact Calls.Name_function_global I.ok.kind hg (Calls.loadGlobal_builtin (by rw [I.ok.glob]; exact I.mod.glob.keeps I.bk) hm (by rw [I.ok.blt]; exact h1.keeps I.bk) ((h2 x hn).trans hv) h) hd
theorem pe_glob {x : Str} {v : V} {u : Value} {pos : Pos} (hg : Gl X x) (hm : X.mg x = some u) (r : RelV v u) (hd : (x == ("__debug__" : Str)) = false := by decide) : PE X (.Name x pos) (tC v) :=
 fun _ _ _ H _ I h=>ld_glob I hg hm ⟨v,H,I,r,h⟩ hd
theorem pe_bltn {x : Str} {v : V} {u : Value} {pos : Pos} (hg : Gl X x) (hm : X.mg x = none) (hv : yr x = some u) (r : RelV v u) (hn : x ≠ "__name__" := by decide) (hd : (x == ("__debug__" : Str)) = false := by decide) : PE X (.Name x pos) (tC v) :=
 fun _ _ _ H _ I h=>gM I hg hm hv ⟨v,H,I,r,h⟩ hn hd
variable {a b:Expr} {ta tb:TE} {pos:Pos}
variable {tA tB':TT} {rest:List Expr}
noncomputable def tAnd (t u:TT):TT:=fun σ H Q=>t σ H fun c H1=>if c=true then u σ H1 Q else Q false H1
noncomputable def tOr (t u:TT):TT:=fun σ H Q=>t σ H fun c H1=>if c=true then Q true H1 else u σ H1 Q
noncomputable def tNot (t:TT):TT:=fun σ H Q=>t σ H fun c H1=>Q (!c) H1
theorem pw_and1 (ha:PT X a tA):PW X (.BoolOp .And [a] pos) tA:=by
 intro wh pins s σ H Q I h
 refine isTrue_and (thn (ha pins s σ H Q I h) fun c s1 e=>?_)
 cases c with
 | true=>exact isTrue_and_nil e
 | false=>exact e
theorem pw_or1 (ha:PT X a tA):PW X (.BoolOp .Or [a] pos) tA:=by
 intro wh pins s σ H Q I h
 refine isTrue_or (thn (ha pins s σ H Q I h) fun c s1 e=>?_)
 cases c with
 | false=>exact isTrue_or_nil e
 | true=>exact e
theorem pw_and (ha:PT X a tA) (hb:PW X (.BoolOp .And (b::rest) pos) tB'):PW X (.BoolOp .And (a::b::rest) pos) (tAnd tA tB'):=by
 intro wh pins s σ H Q I h
 refine isTrue_and (thn (ha pins s σ H _ I h) fun c s1 hh_=>?_)
 obtain ⟨H1,I1,q1⟩:=hh_
 cases c with
 | true=>exact hb wh pins s1 σ H1 Q I1 q1
 | false=>exact ⟨H1,I1,q1⟩
theorem pw_or (ha:PT X a tA) (hb:PW X (.BoolOp .Or (b::rest) pos) tB'):PW X (.BoolOp .Or (a::b::rest) pos) (tOr tA tB'):=by
 intro wh pins s σ H Q I h
 refine isTrue_or (thn (ha pins s σ H _ I h) fun c s1 hh_=>?_)
 obtain ⟨H1,I1,q1⟩:=hh_
 cases c with
 | true=>exact ⟨H1,I1,q1⟩
 | false=>exact hb wh pins s1 σ H1 Q I1 q1
theorem pt_not (ha:PT X a tA):PT X (.UnaryOp .Not a pos) (tNot tA):=by
 intro pins s σ H Q I h
 exact isTrue_not (thn (ha pins s σ H (fun c H1=>Q (!c) H1) I h) fun c s1 h1=>by
  obtain ⟨H1,I1,q1⟩:=h1
  exact ⟨H1,I1,q1⟩)
noncomputable def tAndV (ta tb:TE):TE:=fun σ H Q=>ta σ H fun x H1=>∃ c,x=.bl c∧if c=true then tb σ H1 Q else Q (.bl false) H1
theorem pe_one {op} {t:TE} (h:PE X a t):PE X (.BoolOp op [a] pos) t:=fun pins s σ H Q I hw=>BoolOp_one (h pins s σ H Q I hw)
theorem pe_and (ha:PE X a ta) (hb:PE X (.BoolOp .And (b::rest) pos) tb):PE X (.BoolOp .And (a::b::rest) pos) (tAndV ta tb):=by
 intro pins s σ H Q I h
 refine BoolOp_and (thn (ha pins s σ H _ I h) fun v s1 hh_=>?_)
 obtain ⟨x,H1,I1,r1,q1⟩:=hh_
 obtain ⟨c,rfl,q1⟩:=q1
 subst r1
 refine uv ?_
 cases c with
 | true=>exact hb pins s1 σ H1 Q I1 q1
 | false=>exact ⟨.bl false,H1,I1,rfl,q1⟩
end
end L2
namespace L2
open PySem PySem.Spec PyProof.Rows
noncomputable def SqL (K:ze) (H:Hp) (a:Addr) (xs:List V):Prop :=
 Rd H a (.lst xs) ∨
  ∃ (o : Obj) (its : Array Value) (n : Nat), K.lookup a = some o ∧ o.cls = .type "list" ∧ o.dict = none ∧ o.data = .seq its n ∧ its.size ≤ y4 ∧ Vals xs its.toList
noncomputable def SqT (K:ze) (H:Hp) (a:Addr) (xs:List V):Prop :=
 Rd H a (.tup xs) ∨
  ∃ (o : Obj) (its : Array Value) (n : Nat), K.lookup a = some o ∧ o.cls = .type "tuple" ∧ o.data = .seq its n ∧ its.size ≤ y4 ∧ Vals xs its.toList
noncomputable def absV:Value→Option V
 | .none=>some .non
 | .bool b=>some (.bl b)
 | .int i _=>some (.int i)
 | .str x _=>some (.str x)
 | .bytes b _=>some (.byt b)
 | .float b _=>some (.flt b)
 | .ref a=>some (.ref a)
 | .type n=>some (.ty n)
 | _=>none
theorem RelV.abs {x:V} {u:Value} (r:RelV x u):absV u=some x:=by
 cases x with
 | non=>subst r; rfl
 | bl _=>subst r; rfl
 | int _=>obtain ⟨t,rfl⟩:=r; rfl
 | str _=>obtain ⟨t,rfl⟩:=r; rfl
 | byt _=>obtain ⟨t,rfl⟩:=r; rfl
 | flt _=>obtain ⟨t,rfl⟩:=r; rfl
 | ref _=>subst r; rfl
 | ty _=>subst r; rfl
theorem RelV.inj {x y:V} {u:Value} (r:RelV x u) (q:RelV y u):x=y:=yy (r.abs.symm.trans q.abs)
theorem Vals.inj:∀ {xs ys:List V} {us:List Value},Vals xs us→Vals ys us→xs=ys:=by
 intro xs ys us h
 induction h generalizing ys with
 | nil=>intro h'; cases h'; rfl
 | cons r t ih =>
  intro h'
  cases h' with
  | cons r' t'=>rw [r.inj r',ih t']
section
variable {X:Cx} {pins:List (Addr × Obj)} {σ:St} {H:Hp} {s:Shared} {a:Addr} {xs ys:List V}
theorem Inv.list (I:Inv X pins σ H s) (h:SqL X.K H a xs):∃ its:List Value,Vals xs its∧PlainL s.heap a its.toArray∧xs.length≤y4:=by
 rcases h with h | ⟨o,its,n,hk,hc,hd,hs,hz,r⟩
 ·obtain ⟨z,its,n,r,e⟩:=h.ok I.hok
  exact ⟨its,r,⟨_,n,e,rfl,rfl,rfl⟩,z⟩
 ·refine ⟨its.toList,r,⟨o,n,I.kIn a o hk,hc,hd,by simpa using hs⟩, ?_⟩
  have e:=r.length
  simp only [qh] at e
  omega
theorem Inv.tuple (I:Inv X pins σ H s) (h:SqT X.K H a xs):∃ its:List Value,Vals xs its∧IsTup s.heap a its.toArray∧xs.length≤y4:=by
 rcases h with h | ⟨o,its,n,hk,hc,hs,hz,r⟩
 ·obtain ⟨z,its,r,p⟩:=h.ok I.hok
  exact ⟨its,r,p,z⟩
 ·refine ⟨its.toList,r,⟨o,I.kIn a o hk,hc,n,by simpa using hs⟩, ?_⟩
  have e:=r.length
  simp only [qh] at e
  omega
theorem Inv.list_inj (I:Inv X pins σ H s) (h:SqL X.K H a xs) (h':SqL X.K H a ys):xs=ys:=by
 obtain ⟨its,r,⟨o,n,e,_,_,d⟩,_⟩:=I.list h
 obtain ⟨its',r',⟨o',n',e',_,_,d'⟩,_⟩:=I.list h'
 rw [e] at e'; (injection e' with e'; subst e')
 rw [d] at d'
 injection d' with d1 _
 have:its=its':=by simpa using congrArg Array.toList d1
 subst this
 exact r.inj r'
theorem Inv.tuple_inj (I:Inv X pins σ H s) (h:SqT X.K H a xs) (h':SqT X.K H a ys):xs=ys:=by
 obtain ⟨its,r,⟨o,e,_,n,d⟩,_⟩:=I.tuple h
 obtain ⟨its',r',⟨o',e',_,n',d'⟩,_⟩:=I.tuple h'
 rw [e] at e'; (injection e' with e'; subst e')
 rw [d] at d'
 injection d' with d1 _
 have:its=its':=by simpa using congrArg Array.toList d1
 subst this
 exact r.inj r'
end
noncomputable abbrev Cx.wish (X:Cx) (E:Value→Shared→Prop):Cx:={ X with xe:=E }
noncomputable abbrev Cx.nox (X:Cx):Cx:=X.wish fun _ _=>False
theorem Cx.Ok.wish {X:Cx} (ok:X.Ok) (E:Value→Shared→Prop):(X.wish E).Ok :=
 ⟨ok.mod,ok.kind,ok.glob,ok.blt,ok.above,ok.inj,ok.has,ok.cab,ok.hd,ok.frames,ok.stk,ok.exf,ok.bs,ok.bsz,ok.noex,ok.exfs,ok.funs,ok.frf⟩
theorem Cx.Ok.unwish {X:Cx} {E:Value→Shared→Prop} (ok:(X.wish E).Ok):X.Ok :=
 ⟨ok.mod,ok.kind,ok.glob,ok.blt,ok.above,ok.inj,ok.has,ok.cab,ok.hd,ok.frames,ok.stk,ok.exf,ok.bs,ok.bsz,ok.noex,ok.exfs,ok.funs,ok.frf⟩
section
variable {X:Cx} {pins:List (Addr × Obj)} {σ:St} {H:Hp} {s:Shared} {E:Value→Shared→Prop}
theorem Inv.wish (I:Inv X pins σ H s) (E:Value→Shared→Prop):Inv (X.wish E) pins σ H s:=⟨I.ok.wish E,I.os,I.bare,I.base,I.loc,I.cell,I.free,I.freeC,I.pin,I.hok,I.len⟩
theorem Inv.unwish (I:Inv (X.wish E) pins σ H s):Inv X pins σ H s:=⟨I.ok.unwish,I.os,I.bare,I.base,I.loc,I.cell,I.free,I.freeC,I.pin,I.hok,I.len⟩
theorem SP.unwish {D:Ends} {f:Flow} {s':Shared} (h:SP (X.wish E) pins D f s'):SP X pins D f s':=by
 cases f with
 | next=>obtain ⟨σ',H',I,q⟩:=h; exact ⟨σ',H',I.unwish,q⟩
 | brk=>obtain ⟨σ',H',I,q⟩:=h; exact ⟨σ',H',I.unwish,q⟩
 | cont=>obtain ⟨σ',H',I,q⟩:=h; exact ⟨σ',H',I.unwish,q⟩
 | ret u=>obtain ⟨v,σ',H',I,r,q⟩:=h; exact ⟨v,σ',H',I.unwish,r,q⟩
theorem PSs.nox {st:List Stmt} {t:TS} (h:PSs X.nox st t):PSs X st t:=fun pins s σ H D I hw =>
 wu (h pins s σ H D (I.wish _) hw) (fun _ _ q=>q.unwish) fun _ _ z=>ub z
end
section
variable {X:Cx} {st:Stmt} {rest:List Stmt} {t u:TS} {e:Expr} {te:TE} {pos:Pos}
noncomputable def tNext:TS:=fun D σ H=>D.nx σ H
noncomputable def tSeq (t u:TS):TS:=fun D σ H=>t { D with nx:=u D } σ H
theorem pss_nil:PSs X [] tNext:=fun _ _ σ H _ I h=>oj ⟨σ,H,I,h⟩
theorem eX (h1:PS X st t) (h2:PSs X rest u):PSs X (st::rest) (tSeq t u):=by
 intro pins s σ H D I h
 refine wpAny_execs_cons (thn (h1 pins s σ H { D with nx:=u D } I h) fun f s1 q=>?_)
 cases f with
 | next =>
  obtain ⟨σ',H',I',q⟩:=q
  exact h2 pins s1 σ' H' D I' q
 | ret v=>exact q
 | brk=>exact q
 | cont=>exact q
theorem pss_one (h1:PS X st t):PSs X [st] t:=by
 intro pins s σ H D I h
 refine wpAny_execs_cons (thn (h1 pins s σ H D I h) fun f s1 q=>?_)
 cases f with
 | next=>exact oj q
 | ret v=>exact q
 | brk=>exact q
 | cont=>exact q
theorem Inv.quiet {pins:List (Addr × Obj)} {σ:St} {H:Hp} {s:Shared} (I:Inv X pins σ H s):interactive X.env=false:=by simp [interactive,I.ok.kind]
noncomputable def tDrop (te:TE):TS:=fun D σ H=>te σ H fun _ H1=>D.nx σ H1
theorem bn (he:PE X e te) (hs:ug e none pos.line X.env=pure false:=by rfl):PS X (.Expr e pos) (tDrop te):=by
 intro pins s σ H D I h
 refine wpAny_Expr_any (thn (he pins s σ H _ I h) fun v s1 hh_=>?_) I.quiet hs
 obtain ⟨x,H1,I1,r1,q1⟩:=hh_
 exact ⟨σ,H1,I1,q1⟩
noncomputable def tRet (te:TE):TS:=fun D σ H=>te σ H D.rt
theorem ps_ret (he:PE X e te):PS X (.Return (some e) pos) (tRet te):=by
 intro pins s σ H D I h
 refine wpAny_Return_some (thn (he pins s σ H _ I h) fun v s1 hh_=>?_)
 obtain ⟨x,H1,I1,r1,q1⟩:=hh_
 exact ⟨x,σ,H1,I1,r1,q1⟩
noncomputable def tIfS (c:TT) (t u:TS):TS:=fun D σ H=>c σ H fun b H1=>if b=true then t D σ H1 else u D σ H1
theorem ps_if {c:Expr} {a b:List Stmt} {tc:TT} (hc:PT X c tc) (ha:PSs X a t) (hb:PSs X b u):PS X (.If c a b pos) (tIfS tc t u):=by
 intro pins s σ H D I h
 refine wpAny_If (thn (hc pins s σ H _ I h) fun d s1 hh_=>?_)
 obtain ⟨H1,I1,q1⟩:=hh_
 cases d with
 | true=>exact ha pins s1 σ H1 D I1 q1
 | false=>exact hb pins s1 σ H1 D I1 q1
noncomputable def tNever:TS:=fun _ _ _=>False
theorem dU {sts:List Stmt}:PSs X sts tNever:=fun _ _ _ _ _ _ h=>h.elim
end
noncomputable abbrev TG:=V→St→Hp→(St→Hp→Prop)→Prop
noncomputable abbrev TGs:=List V→St→Hp→(St→Hp→Prop)→Prop
noncomputable def PG (X:Cx) (target:Expr) (t:TG):Prop :=
 ∀ (pins:List (Addr × Obj)) (s:Shared) (σ:St) (H:Hp) (v:V) (u:Value) (Q:St→Hp→Prop),Inv X pins σ H s→RelV v u→t v σ H Q →
  wpAny (model X.prog X.w) X.A (assign target X.env u) (fun _ s'=>NP X pins Q s') X.xe s
noncomputable def PGs (X:Cx) (ts:List Expr) (t:TGs):Prop :=
 ∀ (pins:List (Addr × Obj)) (s:Shared) (σ:St) (H:Hp) (vs:List V) (us:List Value) (Q:St→Hp→Prop),Inv X pins σ H s→Vals vs us→t vs σ H Q →
  wpAny (model X.prog X.w) X.A (assignInOrder ((pr ts X.env).map (·.2)) us) (fun _ s'=>NP X pins Q s') X.xe s
noncomputable abbrev TIp:=V→V→Hp→VK→Prop
noncomputable def PIp (X:Cx) (op:Operator) (t:TIp):Prop :=
 ∀ (pins:List (Addr × Obj)) (s:Shared) (σ:St) (H:Hp) (x y:V) (v u:Value) (Q:VK),Inv X pins σ H s→RelV x v→RelV y u→t x y H Q →
  wpAny (model X.prog X.w) X.A (inplaceOp op v u) (EP X pins σ Q) X.xe s
section
variable {X:Cx} {pos:Pos}
noncomputable def fA (i:Nat):TG:=fun v σ H Q=>Q (σ.set i (some v)) H
theorem pg_name {i:Nat} {x:Str} (hN:X.N.Nodup) (hi:X.N[i]?=some x) (hx:Loc X.env.scope x) (hf:X.fn x=true∨X.env.scope.names.lookup x=some .local:=by first | exact .inl rfl | exact .inr rfl | assumption):PG X (.Name x pos) (fA i):=by
 intro pins s σ H v u Q I r h
 exact wpAny_assign_Name (iS I hN hi hx r (fun s' I'=>⟨_,H,I',h⟩) hf)
noncomputable def gNil:TGs:=fun vs σ H Q=>vs=[]∧Q σ H
noncomputable def gCons (t:TG) (u:TGs):TGs:=fun vs σ H Q=>∃ v r,vs=v::r∧t v σ H fun σ' H'=>u r σ' H' Q
theorem pgs_nil:PGs X [] gNil:=by
 intro pins s σ H vs us Q I r h
 obtain ⟨e,h⟩:=h
 subst e
 cases r
 exact assignInOrder_nil ⟨σ,H,I,h⟩
theorem dw {e:Expr} {es:List Expr} {t:TG} {u:TGs} (h1:PG X e t) (h2:PGs X es u)
  (hs:(pr (e::es) X.env).map (·.2)=assign e X.env::(pr es X.env).map (·.2):=by rfl):PGs X (e::es) (gCons t u):=by
 intro pins s σ H vs us Q I r h
 obtain ⟨v,vr,e1,h⟩:=h
 subst e1
 cases r with
 | cons r rr =>
  rw [hs]
  refine assignInOrder_cons (thn (h1 pins s σ H _ _ _ I r h) fun _ s1 hh_=>?_)
  obtain ⟨σ1,H1,I1,q1⟩:=hh_
  exact h2 pins s1 σ1 H1 _ _ Q I1 rr q1
noncomputable def gTup (K:ze) (n:Nat) (t:TGs):TG:=fun v σ H Q=>∃ a xs,v=.ref a∧SqT K H a xs∧xs.length=n∧t xs σ H Q
theorem pg_tup {es:List Expr} {k:Nat} {t:TGs} {n:Nat} (hc:X.calm=true) (h:PGs X es t)
  (hn:(pr es X.env).length=n:=by rfl) (hst:(pr es X.env).findIdx? (·.1)=none:=by rfl):PG X (.Tuple es k pos) (gTup X.K n t):=by
 intro pins s σ H v u Q I r hw
 obtain ⟨a,xs,e1,hq,hl,hw⟩:=hw
 subst e1
 subst r
 obtain ⟨its,rv,ht,hz⟩:=I.tuple hq
 refine assign_Tuple_tuple (I.ok.hd hc) ht (by simp [hn,← hl,rv.length]) hst fun h' hx=>?_
 have I1:Inv X pins σ H { s with heap:=h' }:=I.kept (t':=s.toks) fun b o e=>hx b o (yh (zt e)) e
 exact h pins _ σ H xs _ Q I1 (by simpa using rv) hw
noncomputable def tAsg (te:TE) (g:TG):TS:=fun D σ H=>te σ H fun x H1=>g x σ H1 D.nx
theorem ps_asg {tg e:Expr} {te:TE} {g:TG} (he:PE X e te) (hg:PG X tg g) (hs:swapsWithSole [tg] e pos.line X.env=pure false:=by rfl) (hw:swappedStores [tg] e X.env=pure none:=by rfl)
  (h1:(pr [tg] X.env).map (·.2)=[assign tg X.env]:=by rfl):PS X (.Assign [tg] e pos) (tAsg te g):=by
 intro pins s σ H D I h
 refine wpAny_Assign_stores (thn (he pins s σ H _ I h) fun v s1 hh_=>?_) hs hw
 refine zz fun P_ k_=>?_
 obtain ⟨x,H1,I1,r1,q1⟩:=hh_
 refine k_ ?_
 rw [h1]
 exact thn (hg pins s1 σ H1 x v _ I1 r1 q1) fun _ s2 q=>q
theorem ps_set {i:Nat} {x:Str} {e:Expr} {te:TE} {pos':Pos} (hN:X.N.Nodup) (hi:X.N[i]?=some x) (hx:Loc X.env.scope x) (he:PE X e te) (hs:ug e (some (.Name x pos')) pos.line X.env=pure false:=by rfl) (hf:X.fn x=true∨X.env.scope.names.lookup x=some .local:=by first | exact .inl rfl | exact .inr rfl | assumption) :
  PS X (.Assign [.Name x pos'] e pos) (tAsg te (fA i)):=by
 intro pins s σ H D I h
 refine wpAny_Assign_Name (thn (he pins s σ H _ I h) fun v s1 hh_=>?_) hs
 obtain ⟨y,H1,I1,r1,q1⟩:=hh_
 exact iS I1 hN hi hx r1 (fun s2 I2=>⟨_,H1,I2,q1⟩) hf
noncomputable def tAug (i:Nat) (te:TE) (ti:TIp):TS:=fun D σ H=>∃ x,σ[i]?=some (some x)∧te σ H fun y H1=>ti x y H1 fun z H2=>D.nx (σ.set i (some z)) H2
theorem ps_aug {i:Nat} {x:Str} {e:Expr} {te:TE} {op:Operator} {ti:TIp} {pos':Pos} (hN:X.N.Nodup) (hi:X.N[i]?=some x) (hx:Loc X.env.scope x) (he:PE X e te) (ho:PIp X op ti) (hf:X.fn x=true∨X.env.scope.names.lookup x=some .local:=by first | exact .inl rfl | exact .inr rfl | assumption) :
  PS X (.AugAssign (.Name x pos') op e pos) (tAug i te ti):=by
 intro pins s σ H D I h
 refine zz fun P_ k_=>?_
 obtain ⟨v,e1,h⟩:=h
 obtain ⟨m,hn,hl⟩:=I.loc
 have vis:Vis X.env.scope x:=by rcases hx with k | k; exact .inl k; exact .inr (.inl k)
 obtain ⟨u,r,l⟩:=hl i x v hi e1 vis
 refine k_ ?_
 refine wpAny_AugAssign_Name ?_
 have go:wpAny (model X.prog X.w) X.A (eval e X.env) (fun w s₂=>wpAny (model X.prog X.w) X.A (inplaceOp op u w) (fun r s₃=>wpAny (model X.prog X.w) X.A (storeName X.env x r) (fun _=>SP X pins D .next) X.xe s₃) X.xe s₂) X.xe s:=by
  refine thn (he pins s σ H _ I h) fun w s1 hh_=>?_
  refine zz fun P_ k_=>?_
  obtain ⟨y,H1,I1,r1,q1⟩:=hh_
  refine k_ ?_
  refine thn (ho pins s1 σ H1 v y u w _ I1 r r1 q1) fun z s2 hh_=>?_
  refine zz fun P_ k_=>?_
  obtain ⟨zv,H2,I2,r2,q2⟩:=hh_
  refine k_ ?_
  exact iS I2 hN hi hx r2 (fun s3 I3=>⟨_,H2,I3,q2⟩) hf
 rcases l with ⟨hk,hm⟩ | ⟨hk,c,hc,hcell⟩
 ·exact wpAny_loadName_local I.ok.kind hk hn hm go
 ·rcases hk with hk | hk
  ·exact wpAny_loadName_cell I.ok.kind hk hc hcell go
  ·rcases hx with k | k
   ·have:X.env.scope.names.lookup x=some .free:=hk
    rw [k] at this; (injection this with this; injection this)
   ·have:X.env.scope.names.lookup x=some .free:=hk
    rw [k] at this; (injection this with this; injection this)
noncomputable def ipI (f:Int→Int→Int):TIp:=fun x y H Q=>∃ i j,x=.int i∧y=.int j∧Q (.int (f i j)) H
theorem ip_add:PIp X .Add (ipI fun i j=>i+j):=by
 intro pins s σ H x y v u Q I r1 r2 h
 refine zz fun P_ k_=>?_
 obtain ⟨i,j,e1,e2,q⟩:=h
 refine k_ ?_
 subst e1; subst e2
 obtain ⟨t,rfl⟩:=r1
 obtain ⟨t',rfl⟩:=r2
 exact iadd_int ⟨.int _,H,I.tok _,⟨_,rfl⟩,q⟩
end
section
variable {X:Cx} {pos:Pos}
noncomputable def tWhile (c:TT) (tb:TS):TS:=fun D σ H=>∃ W:Nat→St→Hp→Prop,(∃ m,W m σ H)∧∀ m σ H,W m σ H →
 c σ H fun b H1=>if b=true then ∃ N:St→Hp→Prop,(∀ σ' H',N σ' H'→∃ m',m' < m∧W m' σ' H')∧tb { D with nx:=N,ct:=N,bk:=D.nx } σ H1 else D.nx σ H1
theorem ps_while {c:Expr} {body:List Stmt} {tc:TT} {tb:TS} (hp:xt (model X.prog X.w) X.A X.env X.xe) (hc:PT X c tc) (hb:PSs X body tb):PS X (.While c body [] pos) (tWhile tc tb):=by
 intro pins s σ H D I h
 refine zz fun P_ k_=>?_
 obtain ⟨W,⟨m0,w0⟩,turn⟩:=h
 refine k_ ?_
 refine wpAny_While (codeAny_whileLoop (fun n s'=>NP X pins (W n) s') ?_ m0 ⟨σ,H,I,w0⟩)
 rintro n s1 ⟨σ1,H1,I1,w1⟩
 refine ut hp (thn (hc pins s1 σ1 H1 _ I1 (turn n σ1 H1 w1)) fun b s2 hh_=>?_)
 obtain ⟨H2,I2,q2⟩:=hh_
 cases b with
 | true =>
  obtain ⟨N,hN,q2⟩:=q2
  rw [if_pos rfl]
  refine ut hp (thn (hb pins s2 σ1 H2 _ I2 q2) fun f s3 q3=>?_)
  cases f with
  | next =>
   refine zz fun P_ k_=>?_
   obtain ⟨σ3,H3,I3,n3⟩:=q3
   obtain ⟨m',hm,w3⟩:=hN σ3 H3 n3
   refine k_ ?_
   exact ⟨m',hm,σ3,H3,I3,w3⟩
  | cont =>
   refine zz fun P_ k_=>?_
   obtain ⟨σ3,H3,I3,n3⟩:=q3
   obtain ⟨m',hm,w3⟩:=hN σ3 H3 n3
   refine k_ ?_
   exact ⟨m',hm,σ3,H3,I3,w3⟩
  | brk=>exact q3
  | ret v=>exact q3
 | false =>
  rw [if_neg y9]
  exact oj ⟨σ1,H2,I2,q2⟩
end
structure It where
 go:Nat→Hp→Prop
 yld:Nat→Hp→V→Hp→Prop
 stop:Nat→Hp→Prop
noncomputable def FpOk (X:Cx) (pins:List (Addr × Obj)) (H:Hp) (b:Addr):Prop :=
 H b=none∧b≠X.env.locals∧b∉X.fs∧(b∈X.ex∨X.s₀.heap.objs.size≤b)∧(∀ x c,X.env.cells.lookup x=some c→c≠b)∧∀ p∈X.pn++pins,p.1≠b
theorem Inv.fpOk {X:Cx} {pins:List (Addr × Obj)} {σ:St} {H H':Hp} {s:Shared} {b:Addr} (I:Inv X pins σ H s) (hb:s.heap.objs.size≤b) (hn:H' b=none):FpOk X pins H' b:=by
 refine ⟨hn,p8 (zm I.lt hb),I.nofs hb,.inr (z5 I.sz hb),fun x c e z=>?_,fun p hp z=>?_⟩
 ·obtain ⟨v,q⟩:=I.cell x c e
  exact absurd (zm q.lt (by rw [z]; exact hb)) (v7 _)
 ·exact absurd (zm (zt (I.pin p hp).1) (by rw [z]; exact hb)) (v7 _)
inductive YP (X:Cx) (pins:List (Addr × Obj)) (σ:St) (u:Value) (y:V→Hp→Prop) (tn:Heap→Prop) (fp:List Addr) (s2:Shared):Prop
 | mk (x:V) (H':Hp) (I:Inv X pins σ H' s2) (r:RelV x u) (q:y x H') (st:tn s2.heap) (fr:∀ b∈fp,H' b=none)
structure Turn (P:yp) (w:World) (K:ze) (tg:Expr) (J:It) (fp:List Addr) (it:Addr) (tn:Nat→Heap→Prop):Prop where
 mem:it∈fp
 obj:∀ i h,tn i h→∀ b∈fp,∃ o,h.get? b=some o∧∀ v,o.data ≠ .cell v
 keep:∀ i h h',tn i h→(∀ b∈fp,∀ o,h.get? b=some o→h'.get? b=some o)→tn i h'
 item:∀ (X:Cx),X.prog=P→X.w=w→X.K=K→X.calm=true→∀ (i:Nat) (pins:List (Addr × Obj)) (s:Shared) (σ:St) (H:Hp) (E:Value→Shared→Prop),Inv X pins σ H s→(∀ b∈fp,FpOk X pins H b)→tn i s.heap→J.go i H →
  wpAny (model P w) X.A (pyNext (.ref it)) (fun r s1=>∃ u,r=some u ∧
   wpAny (model P w) X.A (om tg (.ref it) u) (fun _ s2=>YP X pins σ u (J.yld i H) (tn (i+1)) fp s2) E s1) E s
 done:∀ (X:Cx),X.prog=P→X.w=w→X.K=K→X.calm=true→∀ (i:Nat) (pins:List (Addr × Obj)) (s:Shared) (σ:St) (H:Hp) (E:Value→Shared→Prop),Inv X pins σ H s→(∀ b∈fp,FpOk X pins H b)→tn i s.heap→J.stop i H →
  wpAny (model P w) X.A (pyNext (.ref it)) (fun r s1=>r=none∧Inv X pins σ H s1) E s
 self:∀ (A:Around) (i:Nat) (s:Shared) (Q:Value→Shared→Prop) (E:Value→Shared→Prop),tn i s.heap→Q (.ref it) s→wpAny (model P w) A (pyIter (.ref it)) Q E s
noncomputable abbrev TI:=St→Hp→(It→Hp→Prop)→Prop
inductive PIE (X:Cx) (pins:List (Addr × Obj)) (σ:St) (tg:Expr) (R:It→Hp→Prop) (itv:Value) (s2:Shared):Prop
 | mk (it:Addr) (fp:List Addr) (tn:Nat→Heap→Prop) (J:It) (H':Hp) (e:itv=.ref it) (I:Inv X pins σ H' s2) (T:Turn X.prog X.w X.K tg J fp it tn) (st:tn 0 s2.heap) (f:∀ b∈fp,FpOk X pins H' b) (q:R J H')
noncomputable def PI (X:Cx) (tg iter:Expr) (wi:TI):Prop :=
 ∀ (pins:List (Addr × Obj)) (s:Shared) (σ:St) (H:Hp) (R:It→Hp→Prop),Inv X pins σ H s→wi σ H R →
  wpAny (model X.prog X.w) X.A (eval iter X.env) (fun v s1=>wpAny (model X.prog X.w) X.A (pyIter v) (PIE X pins σ tg R) X.xe s1) X.xe s
theorem go_of {M:Model} {A:Around} {E:Value→Shared→Prop} {s:Shared} {tg:Expr} {it:Addr} {u:Value} {o:Obj} {n:String} {vs:Array Value} {Q:Unit→Shared→Prop} (ho:s.heap.get? it=some o) (hc:o.cls=.type n) (hd:o.data=.fields vs)
  (hn : ["enumerate", "zip", "dict_itemiterator", "dict_reverseitemiterator", "odict_iterator", "itertools.zip_longest", "itertools.pairwise"].contains n = false) (hQ : Q () s) : wpAny M A (om tg (.ref it) u) Q E s := by
 unfold om
 cases tg <;> first
  | exact zr hQ
  | (cases u <;> first
    | exact zr hQ
    | (refine z6 (wpAny_load ho ?_)
       rw [hc,hd]
       show wpAny M A (if (["enumerate", "zip", "dict_itemiterator", "dict_reverseitemiterator", "odict_iterator", "itertools.zip_longest", "itertools.pairwise"].contains n && vs[0]? == some (rawInt _)) = true then _ else _) Q E s
       rw [if_neg (by intro h; rw [hn,Bool.false_and] at h; injection h)]
       exact zr hQ))
noncomputable def Itl (K:ze) (a:Addr):It :=
 ⟨fun i H=>∃ xs x,SqL K H a xs∧xs[i]?=some x,fun i H x H'=>H'=H∧∀ xs,SqL K H a xs→xs[i]?=some x,fun i H=>∃ xs,SqL K H a xs∧xs.length≤i⟩
noncomputable def Itt (K:ze) (a:Addr):It :=
 ⟨fun i H=>∃ xs x,SqT K H a xs∧xs[i]?=some x,fun i H x H'=>H'=H∧∀ xs,SqT K H a xs→xs[i]?=some x,fun i H=>∃ xs,SqT K H a xs∧xs.length≤i⟩
noncomputable def Itr (lo:Int) (n:Nat):It:=⟨fun i _=>i < n,fun i H x H'=>H'=H∧x=.int (lo+i),fun i _=>n≤i⟩
theorem turn_list {P:yp} {w:World} {K:ze} {tg:Expr} (a it:Addr):Turn P w K tg (Itl K a) [it] it (fun i h=>h.IsListIter it a i) where
 mem:=by simp
 obj:=fun i h st b hb=>by
  have e:b=it:=by simpa using hb
  subst e
  refine zz fun P_ k_=>?_
  obtain ⟨o,e,c,d⟩:=st
  refine k_ ?_
  exact ⟨o,e,fun v z=>by rw [d] at z; injection z⟩
 keep:=fun i h h' st k=>st.at fun o e=>k it (by simp) o e
 item:=by
  intro X hP hw hK hc i pins s σ H E I hf st hg
  subst hP hw hK
  refine zz fun P_ k_=>?_
  obtain ⟨xs,x,hq,hx⟩:=hg
  obtain ⟨its,rv,p,hz⟩:=I.list hq
  obtain ⟨u,hu,ru⟩:=rv.get hx
  obtain ⟨f0,f1,f2,f3,f4,f5⟩:=hf it (by simp)
  refine k_ ?_
  refine wpAny_pyNext_list_item st p.isList (x:=u) (by simpa using hu) fun h' st' sb=>?_
  have I1:Inv X pins σ H { s with heap:=h' }:=I.turned (t':=s.toks) (fun b o hb e=>(sb.2 b hb).trans e) f0 f1 f3 f4 f5
  refine zz fun P_ k_=>?_
  obtain ⟨o,e,c,d⟩:=id st'
  refine k_ ?_
  exact ⟨u,rfl,go_of (s:={ s with heap:=h' }) e c d (by decide) ⟨x,H,I1,ru,⟨rfl,fun ys hy=>by rw [I.list_inj hy hq]; exact hx⟩,st',fun b hb=>(hf b hb).1⟩⟩
 done:=by
  intro X hP hw hK hc i pins s σ H E I hf st hg
  subst hP hw hK
  refine zz fun P_ k_=>?_
  obtain ⟨xs,hq,hx⟩:=hg
  obtain ⟨its,rv,p,hz⟩:=I.list hq
  obtain ⟨f0,f1,f2,f3,f4,f5⟩:=hf it (by simp)
  refine k_ ?_
  have hl:=rv.length
  exact wpAny_pyNext_list_end (I.ok.hd hc) st p.isList (by simp; omega) fun h' eb=>⟨rfl,I.turned (t':=s.toks) (fun b o hb e=>eb b o hb e) f0 f1 f3 f4 f5⟩
 self:=fun _ _ _ _ _ st h=>wpAny_pyIter_listiter st h
theorem turn_tuple {P:yp} {w:World} {K:ze} {tg:Expr} (a it:Addr):Turn P w K tg (Itt K a) [it] it (fun i h=>h.IsTupleIter it a i) where
 mem:=by simp
 obj:=fun i h st b hb=>by
  have e:b=it:=by simpa using hb
  subst e
  refine zz fun P_ k_=>?_
  obtain ⟨o,e,c,d⟩:=st
  refine k_ ?_
  exact ⟨o,e,fun v z=>by rw [d] at z; injection z⟩
 keep:=fun i h h' st k=>st.at fun o e=>k it (by simp) o e
 item:=by
  intro X hP hw hK hc i pins s σ H E I hf st hg
  subst hP hw hK
  refine zz fun P_ k_=>?_
  obtain ⟨xs,x,hq,hx⟩:=hg
  obtain ⟨its,rv,p,hz⟩:=I.tuple hq
  obtain ⟨u,hu,ru⟩:=rv.get hx
  obtain ⟨f0,f1,f2,f3,f4,f5⟩:=hf it (by simp)
  refine k_ ?_
  refine wpAny_pyNext_tuple_item st (show s.heap.IsTuple a its.toArray from p) (x:=u) (by simpa using hu) fun h' st' sb=>?_
  have I1:Inv X pins σ H { s with heap:=h' }:=I.turned (t':=s.toks) (fun b o hb e=>(sb.2 b hb).trans e) f0 f1 f3 f4 f5
  refine zz fun P_ k_=>?_
  obtain ⟨o,e,c,d⟩:=id st'
  refine k_ ?_
  exact ⟨u,rfl,go_of (s:={ s with heap:=h' }) e c d (by decide) ⟨x,H,I1,ru,⟨rfl,fun ys hy=>by rw [I.tuple_inj hy hq]; exact hx⟩,st',fun b hb=>(hf b hb).1⟩⟩
 done:=by
  intro X hP hw hK hc i pins s σ H E I hf st hg
  subst hP hw hK
  refine zz fun P_ k_=>?_
  obtain ⟨xs,hq,hx⟩:=hg
  obtain ⟨its,rv,p,hz⟩:=I.tuple hq
  obtain ⟨f0,f1,f2,f3,f4,f5⟩:=hf it (by simp)
  refine k_ ?_
  have hl:=rv.length
  exact wpAny_pyNext_tuple_end (I.ok.hd hc) st (show s.heap.IsTuple a its.toArray from p) (by simp; omega) fun h' eb=>⟨rfl,I.turned (t':=s.toks) (fun b o hb e=>eb b o hb e) f0 f1 f3 f4 f5⟩
 self:=fun _ _ _ _ _ st h=>wpAny_pyIter_tupleiter st h
theorem turn_range {P:yp} {w:World} {K:ze} {tg:Expr} (it:Addr) (lo:Int) (n:Nat):Turn P w K tg (Itr lo n) [it] it (fun i h=>IsRangeIter h it (lo+(i:Nat) * 1) ((n:Int) - (i:Nat)) 1) where
 mem:=by simp
 obj:=fun i h st b hb=>by
  have e:b=it:=by simpa using hb
  subst e
  exact ⟨_,st,fun v z=>by
   have z':Data.fields _=Data.cell v:=z
   injection z'⟩
 keep:=fun i h h' st k=>k it (by simp) _ st
 item:=by
  intro X hP hw hK hc i pins s σ H E I hf st hg
  subst hP hw hK
  refine zz fun P_ k_=>?_
  obtain ⟨f0,f1,f2,f3,f4,f5⟩:=hf it (by simp)
  refine k_ ?_
  have W:=Walks.range (prog:=X.prog) (w:=X.w) (I.ok.hd hc) it lo 1 n
  refine W.item i s _ _ hg st fun v h' tk hv st' kk=>?_
  obtain ⟨t,rfl⟩:=hv
  have I1:Inv X pins σ H { s with heap:=h',toks:=tk }:=I.turned (fun b o hb e=>kk b o (by simpa using hb) e) f0 f1 f3 f4 f5
  refine ⟨_, rfl, go_of (s := { s with heap := h', toks := tk }) (n := "range_iterator") st' rfl rfl (by decide) ⟨.int (lo + i), H, I1, ⟨t, ?_⟩, ⟨rfl, rfl⟩, st', fun b hb => (hf b hb).1⟩⟩
  rw [Int.mul_one]
 done:=by
  intro X hP hw hK hc i pins s σ H E I hf st hg
  subst hP hw hK
  refine zz fun P_ k_=>?_
  obtain ⟨f0,f1,f2,f3,f4,f5⟩:=hf it (by simp)
  refine k_ ?_
  exact wpAny_pyNext_range_end (I.ok.hd hc) st (by have:n≤i:=hg; omega) fun h' eb=>⟨rfl,I.turned (t':=s.toks) (fun b o hb e=>eb b o hb e) f0 f1 f3 f4 f5⟩
 self:=fun _ _ _ _ _ st h=>wpAny_pyIter_rangeiter st h
end L2
namespace L2
open PySem PySem.Spec PyProof.Rows
section
variable {X:Cx} {tg:Expr}
noncomputable def iList (K:ze) (tl:TE):TI:=fun σ H R=>tl σ H fun x H1=>∃ a,x=.ref a∧(∃ xs,SqL K H1 a xs)∧R (Itl K a) H1
noncomputable def iTup (K:ze) (tl:TE):TI:=fun σ H R=>tl σ H fun x H1=>∃ a,x=.ref a∧(∃ xs,SqT K H1 a xs)∧R (Itt K a) H1
theorem pi_list {l:Expr} {tl:TE} (hl:PE X l tl):PI X tg l (iList X.K tl):=by
 intro pins s σ H R I h
 refine thn (hl pins s σ H _ I h) fun v s1 hh_=>?_
 obtain ⟨x,H1,I1,r1,q1⟩:=hh_
 obtain ⟨a,e,⟨xs,hq⟩,q⟩:=q1
 subst e
 subst r1
 obtain ⟨its,rv,p,hz⟩:=I1.list hq
 refine p0 p.isList ?_
 refine ⟨s1.heap.objs.size,[s1.heap.objs.size],_,_,H1,rfl,I1.kept (t':=s1.toks) fun b o e=>zb _ e,turn_list a _,⟨_,zy _ rfl,rfl,rfl⟩,fun b hb=>?_,q⟩
 have e:b=s1.heap.objs.size:=by simpa using hb
 subst e
 exact I1.fpOk (zf _) (I1.hok.fresh (zf _))
theorem pi_tup {l:Expr} {tl:TE} (hl:PE X l tl):PI X tg l (iTup X.K tl):=by
 intro pins s σ H R I h
 refine thn (hl pins s σ H _ I h) fun v s1 hh_=>?_
 obtain ⟨x,H1,I1,r1,q1⟩:=hh_
 obtain ⟨a,e,⟨xs,hq⟩,q⟩:=q1
 subst e
 subst r1
 obtain ⟨its,rv,p,hz⟩:=I1.tuple hq
 refine wpAny_pyIter_tuple (show s1.heap.IsTuple a its.toArray from p) ?_
 refine ⟨s1.heap.objs.size,[s1.heap.objs.size],_,_,H1,rfl,I1.kept (t':=s1.toks) fun b o e=>zb _ e,turn_tuple a _,⟨_,zy _ rfl,rfl,rfl⟩,fun b hb=>?_,q⟩
 have e:b=s1.heap.objs.size:=by simpa using hb
 subst e
 exact I1.fpOk (zf _) (I1.hok.fresh (zf _))
theorem range_it {pins:List (Addr × Obj)} {σ:St} {H:Hp} {s:Shared} {R:It→Hp→Prop} {E:Value→Shared→Prop} {lo hi:Int} {t u v:Tok} {tk:Nat} (I:Inv X pins σ H s) (h1 : -(2 ^ 62)≤lo) (h2:lo < 2 ^ 62) (h3 : -(2 ^ 62)≤hi) (h4:hi < 2 ^ 62)
  (q : R (Itr lo (hi - lo).toNat) H) : wpAny (model X.prog X.w) X.A (pyIter (.ref s.heap.objs.size)) (PIE X pins σ tg R) E { s with heap := s.heap.push { cls := .type "range", data := .fields #[.int lo t, .int hi u, .int 1 v] }, toks := tk } := by
 refine wpAny_pyIter_range (IsRange.new ..) (small_one h1 h2 h3 h4) ?_
 have I1 : Inv X pins σ H { s with heap := s.heap.push { cls := .type "range", data := .fields #[.int lo t, .int hi u, .int 1 v] }, toks := tk } := I.kept fun b o e => zb _ e
 refine ⟨(s.heap.push { cls := .type "range", data := .fields #[.int lo t, .int hi u, .int 1 v] }).objs.size, [(s.heap.push { cls := .type "range", data := .fields #[.int lo t, .int hi u, .int 1 v] }).objs.size], _, _, H, rfl,
  I1.kept (t':=tk) fun b o e=>zb _ e,turn_range _ lo (hi - lo).toNat, ?_,fun b hb=>?_,q⟩
 ·have e1:lo+((0:Nat):Int) * 1=lo:=by simp
  have e2:(((hi - lo).toNat:Nat):Int) - ((0:Nat):Int)=xa.Range.rangeSize lo hi 1:=by rw [rangeSize_one]; split <;> omega
  show IsRangeIter _ _ (lo+((0:Nat):Int) * 1) ((((hi - lo).toNat:Nat):Int) - ((0:Nat):Int)) 1
  rw [e1,e2]
  exact zy _ rfl
 ·have e : b = (s.heap.push { cls := .type "range", data := .fields #[.int lo t, .int hi u, .int 1 v] }).objs.size := by simpa using hb
  subst e
  exact I1.fpOk (zf _) (I1.hok.fresh (zf _))
noncomputable def iRng1 (ta:TA):TI:=fun σ H R=>ta σ H fun vs H1=>∃ j:Int,vs=[.int j]∧-(2 ^ 62)≤j∧j < 2 ^ 62∧R (Itr 0 j.toNat) H1
theorem pi_range1 {a : Expr} {ta : TA} {p pos : Pos} (hg : Gl X "range") (hm : X.mg "range" = none) (ha : PA X [a] ta) (hs : zh [a] X.env = [(false, eval a X.env)] := by rfl) : PI X tg (.Call (.Name "range" p) [a] [] pos) (iRng1 ta) := by
 intro pins s σ H R I h
 refine Call_ (gM I hg hm boot_range (vh (thn (ha pos pins s σ H _ I h) fun us s1 hh_=>?_) hs rfl))
 obtain ⟨vs,H1,I1,r1,q1⟩:=hh_
 obtain ⟨j,e,q1,q2,q⟩:=q1
 subst e
 cases r1 with
 | cons r rr =>
  cases rr
  obtain ⟨t,rfl⟩:=r
  exact call_range_1 (range_it I1 (by decide) (by decide) q1 q2 (by simpa using q))
noncomputable def tFor (wi:TI) (g:TG) (tb:TS):TS:=fun D σ H=>wi σ H fun J H1=>∃ W:Nat→Nat→St→Hp→Prop,(∃ m,W 0 m σ H1)∧∀ i m σ H,W i m σ H →
 (J.stop i H∧D.nx σ H)∨(J.go i H∧∃ N:St→Hp→Prop,(∀ σ' H',N σ' H'→∃ m',m' < m∧W (i+1) m' σ' H')∧∀ x H',J.yld i H x H'→g x σ H' fun σ2 H2=>tb { D with nx:=N,ct:=N,bk:=D.nx } σ2 H2)
noncomputable def ig (fp:List Addr) (h:Heap):List (Addr × Obj):=fp.filterMap fun b=>(h.get? b).map fun o=>(b,o)
theorem eA {fp:List Addr} {h:Heap} {b:Addr} {o:Obj} (hb:b∈fp) (e:h.get? b=some o):(b,o)∈ig fp h:=List.mem_filterMap.mpr ⟨b,hb,by rw [e]; rfl⟩
theorem of_pinsAt {fp:List Addr} {h:Heap} {p:Addr × Obj} (hp:p∈ig fp h):p.1∈fp∧h.get? p.1=some p.2:=by
 obtain ⟨b,hb,e⟩:=List.mem_filterMap.mp hp
 cases q:h.get? b with
 | none=>rw [q] at e; injection e
 | some o =>
  rw [q] at e
  have e':(b,o)=p:=yy e
  subst e'
  exact ⟨hb,q⟩
theorem Inv.pinned {pins:List (Addr × Obj)} {σ:St} {H:Hp} {s:Shared} {fp:List Addr} (I:Inv X pins σ H s) (hf:∀ b∈fp,FpOk X pins H b) (ho:∀ b∈fp,∃ o,s.heap.get? b=some o∧∀ v,o.data ≠ .cell v):Inv X (pins++ig fp s.heap) σ H s :=
 I.pins_of fun p hp=>(y2.mp hp).elim (fun z=>I.pin p (zd _ z)) fun z=>by
  obtain ⟨hb,e⟩:=of_pinsAt z
  obtain ⟨f0,f1,f2,_⟩:=hf p.1 hb
  obtain ⟨o,e',d⟩:=ho p.1 hb
  rw [e] at e'; (injection e' with e'; subst e')
  exact ⟨e,f0,f1,f2,d⟩
theorem Inv.unpinned {pins pl:List (Addr × Obj)} {σ:St} {H:Hp} {s:Shared} (I:Inv X (pins++pl) σ H s):Inv X pins σ H s:=I.pins_of fun p hp=>I.pin p (zd _ (zk _ hp))
inductive FI (X:Cx) (pins:List (Addr × Obj)) (tn:Nat→Heap→Prop) (fp:List Addr) (W:Nat→Nat→St→Hp→Prop) (n:Nat) (s:Shared):Prop
 | mk (i:Nat) (σ:St) (H:Hp) (I:Inv X pins σ H s) (st:tn i s.heap) (fr:∀ b∈fp,H b=none) (w:W i n σ H)
theorem ps_for {iter:Expr} {body:List Stmt} {wi:TI} {g:TG} {tb:TS} {pos:Pos} (hp:xt (model X.prog X.w) X.A X.env X.xe) (hc:X.calm=true) (hi:PI X tg iter wi) (hg:PG X tg g) (hb:PSs X body tb)
  (hs:∀ x,w5 iter X.env x=pure x:=by intro _; rfl):PS X (.For tg iter body [] pos) (tFor wi g tb):=by
 intro pins s σ H D I h
 refine wpAny_For (thn (hi pins s σ H _ I h) fun v s1 h1=>thn h1 fun itv s2 h2=>?_) hs
 refine zz fun P_ k_=>?_
 obtain ⟨it,fp,tn,J,H2,e,I2,T,st2,f2,W,⟨m0,w0⟩,turn⟩:=h2
 refine k_ ?_
 subst e
 have stat:∀ {H':Hp},(∀ b∈fp,H' b=none)→∀ b∈fp,FpOk X pins H' b:=fun hn b hb=>⟨hn b hb,(f2 b hb).2⟩
 refine codeAny_forLoop_any (FI X pins tn fp W) ?_ m0 ⟨0,σ,H2,I2,st2,fun b hb=>(f2 b hb).1,w0⟩
 rintro n s3 ⟨i,σ3,H3,I3,st3,fr3,w3⟩
 rcases turn i n σ3 H3 w3 with ⟨stop,qn⟩ | ⟨go,N,hN,step⟩
 ·refine ut hp (thn (T.done X rfl rfl rfl hc i pins s3 σ3 H3 X.xe I3 (stat fr3) st3 stop) fun r s4 hh_=>?_)
  obtain ⟨hr,I4⟩:=hh_
  subst hr
  exact oj ⟨σ3,H3,I4,qn⟩
 ·refine ut hp (thn (T.item X rfl rfl rfl hc i pins s3 σ3 H3 X.xe I3 (stat fr3) st3 go) fun r s4 hh_=>?_)
  obtain ⟨u,hr,h4⟩:=hh_
  subst hr
  refine ut hp (thn h4 fun _ s5 hh_=>?_)
  refine zz fun P_ k_=>?_
  obtain ⟨x,H5,I5,r5,y5,st5,fr5⟩:=hh_
  refine k_ ?_
  have I5':=I5.pinned (stat fr5) (T.obj _ _ st5)
  refine ut hp (thn (hg _ s5 σ3 H5 x u _ I5' r5 (step x H5 y5)) fun _ s6 hh_=>?_)
  refine zz fun P_ k_=>?_
  obtain ⟨σ6,H6,I6,q6⟩:=hh_
  refine k_ ?_
  refine ut hp (thn (hb _ s6 σ6 H6 _ I6 q6) fun f s7 q7=>?_)
  have again:∀ {σ7:St} {H7:Hp},Inv X (pins++ig fp s5.heap) σ7 H7 s7→N σ7 H7→∃ m,m < n∧FI X pins tn fp W m s7:=fun {σ7 H7} I7 n7=>by
   obtain ⟨m',hm,w7⟩:=hN σ7 H7 n7
   refine ⟨m',hm,i+1,σ7,H7,I7.unpinned,T.keep _ _ _ st5 fun b hb o e=>(I7.pin (b,o) (zd _ (zd _ (eA hb e)))).1,fun b hb=>?_,w7⟩
   obtain ⟨o,e,d⟩:=T.obj _ _ st5 b hb
   exact (I7.pin (b,o) (zd _ (zd _ (eA hb e)))).2.1
  cases f with
  | next=>obtain ⟨σ7,H7,I7,n7⟩:=q7; exact again I7 n7
  | cont=>obtain ⟨σ7,H7,I7,n7⟩:=q7; exact again I7 n7
  | brk=>obtain ⟨σ7,H7,I7,q7⟩:=q7; exact ⟨σ7,H7,I7.unpinned,q7⟩
  | ret v=>obtain ⟨x7,σ7,H7,I7,r7,q7⟩:=q7; exact ⟨x7,σ7,H7,I7.unpinned,r7,q7⟩
end
end L2
namespace L2
open PySem PySem.Spec PyProof.Rows
noncomputable abbrev R2:=V→V→Hp→VK→Prop
noncomputable def OpR (X:Cx) (f:Value→Value→Sem Value) (r:R2):Prop :=
 ∀ (pins:List (Addr × Obj)) (s:Shared) (σ:St) (H:Hp) (x y:V) (v u:Value) (Q:VK),Inv X pins σ H s→RelV x v→RelV y u→r x y H Q →
  wpAny (model X.prog X.w) X.A (f v u) (EP X pins σ Q) X.xe s
noncomputable def UnR (X:Cx) (f:Value→Sem Value) (r:V→Hp→VK→Prop):Prop :=
 ∀ (pins:List (Addr × Obj)) (s:Shared) (σ:St) (H:Hp) (x:V) (v:Value) (Q:VK),Inv X pins σ H s→RelV x v→r x H Q →
  wpAny (model X.prog X.w) X.A (f v) (EP X pins σ Q) X.xe s
noncomputable def CallR (X:Cx) (f:Value) (r:List V→Hp→VK→Prop):Prop :=
 ∀ (pins:List (Addr × Obj)) (s:Shared) (σ:St) (H:Hp) (xs:List V) (us:List Value) (Q:VK),Inv X pins σ H s→Vals xs us→r xs H Q →
  wpAny (model X.prog X.w) X.A (call f us) (EP X pins σ Q) X.xe s
noncomputable def TruR (X:Cx) (r:V→Hp→(Bool→Hp→Prop)→Prop):Prop :=
 ∀ (pins:List (Addr × Obj)) (s:Shared) (σ:St) (H:Hp) (x:V) (v:Value) (Q:Bool→Hp→Prop),Inv X pins σ H s→RelV x v→r x H Q →
  wpAny (model X.prog X.w) X.A (truthy v) (TP X pins σ Q) X.xe s
noncomputable def tOp (r:R2) (ta tb:TE):TE:=fun σ H Q=>ta σ H fun x H1=>tb σ H1 fun y H2=>r x y H2 Q
noncomputable def tUn (r:V→Hp→VK→Prop) (ta:TE):TE:=fun σ H Q=>ta σ H fun x H1=>r x H1 Q
noncomputable def rI (C:Int→Int→Prop) (g:Int→Int→V):R2:=fun x y H Q=>∃ i j,x=.int i∧y=.int j∧C i j∧Q (g i j) H
noncomputable def rI0 (g:Int→Int→V):R2:=fun x y H Q=>∃ i j,x=.int i∧y=.int j∧Q (g i j) H
noncomputable def rU (g:Int→V):V→Hp→VK→Prop:=fun x H Q=>∃ i,x=.int i∧Q (g i) H
section
variable {X:Cx} {a b c:Expr} {ta tb tc:TE} {pos:Pos}
theorem binT (ha:PE X a ta) (hb:PE X b tb) {pins:List (Addr × Obj)} {s:Shared} {σ:St} {H:Hp} {R:V→V→Hp→Prop} (I:Inv X pins σ H s)
  (h:ta σ H fun x H1=>tb σ H1 fun y H2=>R x y H2) {Q:Value→Shared→Prop} {f:Value→Value→Sem Value}
  (hf:∀ v u s2 x y H2,Inv X pins σ H2 s2→RelV x v→RelV y u→R x y H2→wpAny (model X.prog X.w) X.A (f v u) Q X.xe s2) :
  wpAny (model X.prog X.w) X.A (eval a X.env) (fun v s₁=>wpAny (model X.prog X.w) X.A (eval b X.env) (fun u s₂=>wpAny (model X.prog X.w) X.A (f v u) Q X.xe s₂) X.xe s₁) X.xe s:=by
 refine thn (ha pins s σ H _ I h) fun v s1 hh_=>?_
 obtain ⟨x,H1,I1,r1,q1⟩:=hh_
 refine thn (hb pins s1 σ H1 _ I1 q1) fun u s2 hh_=>?_
 obtain ⟨y,H2,I2,r2,q2⟩:=hh_
 exact hf v u s2 x y H2 I2 r1 r2 q2
theorem pe_op {op:Operator} {r:R2} (ho:OpR X (o4 op) r) (ha:PE X a ta) (hb:PE X b tb):PE X (.BinOp a op b pos) (tOp r ta tb):=by
 intro pins s σ H Q I h
 exact wpAny_BinOp (binT ha hb I h fun v u s2 x y H2 I2 rx ry q=>ho pins s2 σ H2 x y v u Q I2 rx ry q)
theorem pe_un {op:UnaryOp} {r:V→Hp→VK→Prop} (ho:UnR X (unaryOp op) r) (ha:PE X a ta):PE X (.UnaryOp op a pos) (tUn r ta):=by
 intro pins s σ H Q I h
 refine UnaryOp_ (thn (ha pins s σ H _ I h) fun v s1 hh_=>?_)
 obtain ⟨x,H1,I1,r1,q1⟩:=hh_
 exact ho pins s1 σ H1 x v Q I1 r1 q1
theorem opI {f:Value→Value→Sem Value} {C:Int→Int→Prop} {g:Int→Int→Int}
  (rule:∀ (i j:Int) (t u:Tok) (s:Shared) (Q:Value→Shared→Prop) (E:Value→Shared→Prop),C i j→Q (.int (g i j) s.toks) { s with toks:=s.toks+1 }→wpAny (model X.prog X.w) X.A (f (.int i t) (.int j u)) Q E s) :
  OpR X f (rI C fun i j=>.int (g i j)):=by
 intro pins s σ H x y v u Q I rx ry h
 obtain ⟨i,j,rfl,rfl,hc,q⟩:=h
 obtain ⟨t,rfl⟩:=rx
 obtain ⟨t',rfl⟩:=ry
 exact rule i j t t' s _ _ hc ⟨.int (g i j),H,I.tok _,⟨_,rfl⟩,q⟩
theorem opI0 {f:Value→Value→Sem Value} {g:Int→Int→Int}
  (rule:∀ (i j:Int) (t u:Tok) (s:Shared) (Q:Value→Shared→Prop) (E:Value→Shared→Prop),Q (.int (g i j) s.toks) { s with toks:=s.toks+1 }→wpAny (model X.prog X.w) X.A (f (.int i t) (.int j u)) Q E s) :
  OpR X f (rI0 fun i j=>.int (g i j)):=by
 intro pins s σ H x y v u Q I rx ry h
 obtain ⟨i,j,rfl,rfl,q⟩:=h
 obtain ⟨t,rfl⟩:=rx
 obtain ⟨t',rfl⟩:=ry
 exact rule i j t t' s _ _ ⟨.int (g i j),H,I.tok _,⟨_,rfl⟩,q⟩
theorem opB0 {f:Value→Value→Sem Value} {g:Int→Int→Bool}
  (rule:∀ (i j:Int) (t u:Tok) (s:Shared) (Q:Value→Shared→Prop) (E:Value→Shared→Prop),Q (.bool (g i j)) s→wpAny (model X.prog X.w) X.A (f (.int i t) (.int j u)) Q E s) :
  OpR X f (rI0 fun i j=>.bl (g i j)):=by
 intro pins s σ H x y v u Q I rx ry h
 obtain ⟨i,j,rfl,rfl,q⟩:=h
 obtain ⟨t,rfl⟩:=rx
 obtain ⟨t',rfl⟩:=ry
 exact rule i j t t' s _ _ ⟨.bl (g i j),H,I,rfl,q⟩
noncomputable def CDiv (i j:Int):Prop:=0 < j∧j < 1073741824
noncomputable def CPow (i j:Int):Prop:=0≤j∧j≤1000000∧i.natAbs < 2 ^ 64
noncomputable def CMul (i j:Int):Prop:=(-(2 ^ 64) < i∧i < 2 ^ 64)∨(-(2 ^ 64) < j∧j < 2 ^ 64)
theorem CMul.ok {i j:Int} (h:CMul i j):IntMulOk i j:=by
 rcases h with ⟨h1,h2⟩ | ⟨h1,h2⟩
 ·exact .of_left (intBits_le_64 h1 h2)
 ·exact .of_right (intBits_le_64 h1 h2)
theorem op_add:OpR X (o4 .Add) (rI0 fun i j=>.int (i+j)):=opI0 fun _ _ _ _ _ _ _ q=>add_int q
theorem op_sub:OpR X (o4 .Sub) (rI0 fun i j=>.int (i - j)):=opI0 fun _ _ _ _ _ _ _ q=>sub_int q
theorem op_mul:OpR X (o4 .Mult) (rI CMul fun i j=>.int (i * j)):=opI fun _ _ _ _ _ _ _ hc q=>mul_int q hc.ok
theorem op_fdiv:OpR X (o4 .FloorDiv) (rI CDiv fun i j=>.int (i / j)):=opI fun i j _ _ _ _ _ hc q=>by
 have h1:(0:Int) < j:=hc.1
 have h2:j < 1073741824:=hc.2
 exact floordiv_int (by omega) (by rw [Int.fdiv_eq_ediv_of_nonneg i (by exact Int.le_of_lt ‹_›)]; exact q) (.inl (PyProof.noPylong_small (by omega)))
theorem op_mod:OpR X (o4 .Mod) (rI (fun _ j=>0 < j) fun i j=>.int (i % j)):=opI fun i j _ _ _ _ _ hc q=>by
 have h1:(0:Int) < j:=hc
 exact mod_int' (by omega) (by rw [Int.fmod_eq_emod_of_nonneg i (by exact Int.le_of_lt ‹_›)]; exact q)
theorem op_pow:OpR X (o4 .Pow) (rI CPow fun i j=>.int (i ^ j.toNat)):=opI fun _ _ _ _ _ _ _ hc q=>pow_int_small hc.1 hc.2.1 hc.2.2 q
theorem unI {f:Value→Sem Value} {g:Int→Int}
  (rule:∀ (i:Int) (t:Tok) (s:Shared) (Q:Value→Shared→Prop) (E:Value→Shared→Prop),Q (.int (g i) s.toks) { s with toks:=s.toks+1 }→wpAny (model X.prog X.w) X.A (f (.int i t)) Q E s) :
  UnR X f (rU fun i=>.int (g i)):=by
 intro pins s σ H x v Q I rx h
 obtain ⟨i,rfl,q⟩:=h
 obtain ⟨t,rfl⟩:=rx
 exact rule i t s _ _ ⟨.int (g i),H,I.tok _,⟨_,rfl⟩,q⟩
theorem un_neg:UnR X (unaryOp .USub) (rU fun i=>.int (-i)):=unI fun _ _ _ _ _ q=>neg_int q
end
section
variable {X:Cx} {a b c:Expr} {ta tb tc:TE} {pos:Pos}
theorem fin_bl {pins:List (Addr × Obj)} {σ:St} {H:Hp} {s:Shared} {Q:VK} {k k':Bool} (I:Inv X pins σ H s) (q:Q (.bl k) H) (e:k=k'):EP X pins σ Q (.bool k') s:=by
 subst e
 exact ⟨.bl k,H,I,rfl,q⟩
theorem op_lt:OpR X (wg .Lt) (rI0 fun i j=>.bl (decide (i < j))):=opB0 fun _ _ _ _ _ _ _ q=>lt_int q
theorem op_le:OpR X (wg .LtE) (rI0 fun i j=>.bl (decide (i≤j))):=opB0 fun _ _ _ _ _ _ _ q=>le_int q
theorem op_gt:OpR X (wg .Gt) (rI0 fun i j=>.bl (decide (j < i))):=opB0 fun _ _ _ _ _ _ _ q=>gt_int q
theorem op_ge:OpR X (wg .GtE) (rI0 fun i j=>.bl (decide (j≤i))):=opB0 fun _ _ _ _ _ _ _ q=>ge_int q
theorem op_isN:OpR X (wg .Is) (fun x y H Q=>y=.non∧Q (.bl (decide (x=.non))) H):=by
 intro pins s σ H x y v u Q I rx ry h
 obtain ⟨rfl,q⟩:=h
 subst ry
 refine is_none_gen (fin_bl I q ?_)
 cases x <;> first
  | (cases rx; rfl)
  | (obtain ⟨t,rfl⟩:=rx; rfl)
theorem op_notN:OpR X (wg .IsNot) (fun x y H Q=>y=.non∧Q (.bl (!decide (x=.non))) H):=by
 intro pins s σ H x y v u Q I rx ry h
 obtain ⟨rfl,q⟩:=h
 subst ry
 refine isnot_none_gen (fin_bl I q ?_)
 cases x <;> first
  | (cases rx; rfl)
  | (obtain ⟨t,rfl⟩:=rx; rfl)
theorem pe_cmpR {op:CmpOp} {r:R2} (ho:OpR X (wg op) r) (ha:PE X a ta) (hb:PE X b tb) (hm:sv op b=false):PE X (.Compare a [op] [b] pos) (tOp r ta tb):=by
 intro pins s σ H Q I h
 exact wpAny_Compare1 (binT ha hb I h fun v u s2 x y H2 I2 rx ry q=>ho pins s2 σ H2 x y v u Q I2 rx ry q) hm
noncomputable def tTest (t:TE):TT:=fun σ H Q=>t σ H fun x H'=>∃ k,x=.bl k∧Q k H'
theorem pt_cmpR {op:CmpOp} {r:R2} (ho:OpR X (wg op) r) (ha:PE X a ta) (hb:PE X b tb) (hm:sv op b=false):PT X (.Compare a [op] [b] pos) (tTest (tOp r ta tb)):=by
 intro pins s σ H Q I h
 refine wpAny_isTrue_Compare1 (thn (ha pins s σ H _ I h) fun v s1 ⟨x,H1,I1,r1,q1⟩=>thn (hb pins s1 σ H1 _ I1 q1) fun u s2 ⟨y,H2,I2,r2,q2⟩ =>
  thn (ho pins s2 σ H2 x y v u _ I2 r1 r2 q2) fun c s3 ⟨z,H3,I3,r3,k,e,q3⟩=>?_) hm
 subst e
 subst r3
 exact uv ⟨H3,I3,q3⟩
noncomputable def TruV (K:ze) (x:V) (H:Hp) (k:Bool):Prop :=
 match x with
 | .non=>k=false
 | .bl b=>k=b
 | .int i=>k=(i != 0)
 | .str y=>y.length≤y4∧k=((y.length:Int) != 0)
 | .byt y=>y.size≤y4∧k=((y.size:Int) != 0)
 | .ref p=>(∃ xs,SqL K H p xs∧k = !xs.isEmpty)∨(∃ xs,SqT K H p xs∧k = !xs.isEmpty)∨∃ kvs,H p=some (.dK kvs)∧k = !kvs.isEmpty
 | _=>False
theorem isEmpty_kv {κ:Type} {kvs:List (κ × V)} {vs:List (κ × Value)} (r:KV kvs vs):(!vs.isEmpty) = !kvs.isEmpty:=by
 cases r <;> rfl
theorem im {xs:List V} {its:List Value} (r:Vals xs its):(!its.toArray.isEmpty) = !xs.isEmpty:=by
 cases r <;> simp
theorem line63:(y4:Nat) < 2 ^ 63:=by rw [sg]; decide
theorem tru_ok:TruR X (fun x H Q=>∃ k,TruV X.K x H k∧Q k H):=by
 intro pins s σ H x v Q I rx h
 obtain ⟨k,e,q⟩:=h
 have hl:=line63
 have hs:y4=16777216:=sg
 cases x with
 | non =>
  subst rx
  have e':k=false:=e
  subst e'
  exact truthy_none ⟨H,I,q⟩
 | bl b =>
  subst rx
  have e':k=b:=e
  subst e'
  exact uv ⟨H,I,q⟩
 | int i =>
  obtain ⟨t,rfl⟩:=rx
  have e':k=(i != 0):=e
  subst e'
  exact PySem.P.truthy_int ⟨H,I,q⟩
 | str y =>
  obtain ⟨t,rfl⟩:=rx
  obtain ⟨hy,e'⟩:y.length≤y4∧k=((y.length:Int) != 0):=e
  subst e'
  exact PySem.P.truthy_str (by omega) ⟨H,I.tok _,q⟩
 | byt y =>
  obtain ⟨t,rfl⟩:=rx
  obtain ⟨hy,e'⟩:y.size≤y4∧k=((y.size:Int) != 0):=e
  subst e'
  exact PySem.W.truthy_bytes (by exact z5 ‹_› (by decide)) ⟨H,I.tok _,q⟩
 | ref p =>
  subst rx
  have e':(∃ xs,SqL X.K H p xs∧k = !xs.isEmpty)∨(∃ xs,SqT X.K H p xs∧k = !xs.isEmpty)∨∃ kvs,H p=some (.dK kvs)∧k = !kvs.isEmpty:=e
  rcases e' with ⟨xs,hx,e'⟩ | ⟨xs,hx,e'⟩ | ⟨kvs,hx,e'⟩
  ·subst e'
   obtain ⟨its,r,pl,hz⟩:=I.list hx
   have hlen:=r.length
   exact wpAny_truthy_list pl.isList (by simp only [zn]; omega) ⟨H,I.tok _,by rw [im r]; exact q⟩
  ·subst e'
   obtain ⟨its,r,pl,hz⟩:=I.tuple hx
   have hlen:=r.length
   exact truthy_tuple pl (by simp only [zn]; omega) ⟨H,I.tok _,by rw [im r]; exact q⟩
  ·subst e'
   obtain ⟨hz,hS,vs,r,m⟩:=I.hok p _ hx
   have hlen:kvs.length=vs.length:=mh r
   exact wpAny_truthy_dict hS m (by omega) ⟨H,I.tok _,by rw [isEmpty_kv r]; exact q⟩
 | _=>exact (show False from e).elim
theorem pt_truth (ha:PE X a ta) (he:∀ whole,isTrue a X.env whole=(do let v ← whole; standAt a.pos; holding [v] (truthy v))) :
  PT X a (fun σ H Q=>ta σ H fun x H'=>∃ k,TruV X.K x H' k∧Q k H'):=by
 intro pins s σ H Q I h
 refine isTrue_plain (thn (ha pins s σ H _ I h) fun v s1 hh_=>?_) (he _)
 obtain ⟨x,H1,I1,r1,q1⟩:=hh_
 exact tru_ok pins s1 σ H1 x v Q I1 r1 q1
theorem g9 {x:V} {us:List Value} (r:Vals [x] us):∃ u,us=[u]∧RelV x u:=by
 cases r with
 | cons r1 r2=>cases r2; exact ⟨_,rfl,r1⟩
end
end L2
namespace L2
open PySem PySem.Spec PyProof.Rows
structure ObjM (h:Heap) (x dx C:Addr) (mA:Str→Option Value):Prop where
 obj:h.get? x=some (u8 C dx)
 ns:h.Ns1 dx mA
 ne:dx≠x
set_option tactic.hygienic true in
theorem lookIn_ns {h:Heap} {dx:Addr} {mA:Str→Option Value} (n:h.Ns1 dx mA):∃ od,h.get? dx=some od∧∀ name,nh name od=some (mA name):=by
 obtain ⟨o,es,ep,ho,hd,hk,_,hm⟩:=n
 refine ⟨o,ho,fun name=>?_⟩
 have e:=hm name
 unfold nsFind findBy at e
 rw [← Array.find?_toList] at e
 unfold nh
 rw [hd]
 dsimp only
 split
 ·rename_i y q
  rw [q] at e
  exact congrArg some e
 ·rename_i q
  rw [q] at e
  have a:es.toList.any (·.refKey)=false:=by
   rw [ma]
   intro y hy
   obtain ⟨z,t,hkey⟩:=hk y (Array.mem_toList_iff.mp hy)
   simp [DictEntry.refKey,hkey]
  have a':¬ es.toList.any (·.refKey)=true:=by rw [a]; exact y9
  rw [if_neg a']
  exact congrArg some e
theorem ObjM.look {h:Heap} {x dx C:Addr} {mA:Str→Option Value} (I:ObjM h x dx C mA):∃ od,PySem.W.InstAt h x (u8 C dx) C (some od)∧∀ name,nh name od=some (mA name) :=
 let ⟨od,ho,hl⟩:=lookIn_ns I.ns
 ⟨od,⟨I.obj,rfl,rfl,ho⟩,hl⟩
section
variable {prog:yp} {w:World} {A:Around} {E:Value→Shared→Prop} {s:Shared} {K:ze} {x dx C f:Addr} {mA:Str→Option Value} {name:Str} {v:Value}
theorem get_map {expr:Bool} {Q:Value→Shared→Prop} (X:K.In s.heap) (I:ObjM s.heap x dx C mA) (hg:rh K C name=true) (hh:p7 K C=true)
  (ha:xk K (.ref C) name=some none) (hv:mA name=some v) (hv':PySem.W.handedIn v=true) (h:Q v { s with toks:=s.toks+1 }) :
  wpAny (model prog w) A (getAttr (.ref x) name expr) Q E s:=by
 obtain ⟨od,J,hl⟩:=I.look
 exact PySem.W.get_value X J (oo hg).1 (PySem.W.findObj_own hh ha rfl (by rw [hl,hv])) hv' h
theorem get_meth {pl:Sem Bool} {Q:Value × List Value→Shared→Prop} (X:K.In s.heap) (I:ObjM s.heap x dx C mA) (hg:rh K C name=true)
  (hf:xk K (.ref C) name=some (some (.ref f))) (ht:n8 K (.ref f)=true) (hv:mA name=none) (h:Q (.ref f,[.ref x]) s) :
  wpAny (model prog w) A (getMethod (.ref x) name pl) Q E s:=by
 obtain ⟨od,J,hl⟩:=I.look
 exact PySem.W.method_fn X J (oo hg).1 (oo hg).2 hf (beq_iff_eq.mp ht) (by show (nh name od).map (·.isSome)=some false; rw [hl,hv]; rfl) h
theorem set_map {ns:List Str} {Q:Unit→Shared→Prop} (X:K.In s.heap) (I:ObjM s.heap x dx C mA)
  (hs : xk K (.ref C) "__setattr__" = some (some (.builtin "object.__setattr__"))) (hp : m5 K C = true) (ht : PySem.W.takerIn K C name = some none) (hh : p7 K C = true)
  (hw:PySem.Within mA ns) (hsz:ns.length≤y4)
  (h:∀ h',ObjM h' x dx C (fun y=>if y=name then some v else mA y)→t3 dx s.heap h'→Q () { s with heap:=h',toks:=s.toks+2 }) :
  wpAny (model prog w) A (setAttr (.ref x) name v) Q E s:=by
 obtain ⟨od,J,hl⟩:=I.look
 refine PySem.W.set_plain X J hs (PySem.W.osa_open (s:={ s with toks:=s.toks+1 }) (r:=none) X J hp ht fun b=>?_)
 obtain ⟨cd,hc,hd'⟩:=PySem.W.any_some hh
 have hx:s.heap.get? x=some ⟨.ref C,some dx,.plain,#[]⟩:=I.obj
 refine z6 (zr (z6 (z6 (wpAny_loadPart hx (z6 (PySem.W.Looks.here (s:={ s with toks:=s.toks+1 }) (PySem.W.looks_clsIn X hc) ?_))))))
 rw [hd']
 refine zr (a:=some dx) (z6 (zr (z6 ?_)))
 refine wpAny_nsSet1 (s:={ s with toks:=s.toks+1 }) I.ns fun h' hn2 hs2=>?_
 refine zz fun P_ k_=>?_
 obtain ⟨oD,esD,epD,hoD,hdD,hcD⟩:=hn2.count (PySem.Within.cons name v hw)
 refine k_ ?_
 refine z6 (wpAny_lookBehind hoD (by rw [hdD]; exact pastItsLine_dict (z5 hcD (by rw [yx]; exact r4 ‹_›))) ?_)
 exact zr (h _ ⟨(hs2.2 _ (wt I.ne)).trans I.obj,hn2,I.ne⟩ hs2)
theorem make_map {R:Result→Shared→Prop} {vs:List Value} {kw:List (Str × Value)} (X:K.In s.heap) (hm:PySem.W.makesIn K C=true)
  (hi : xk K (.ref C) "__init__" = some (some (.ref f))) (hf : PySem.W.typeIn K (.ref f) = some (.type "function"))
  (h : qq (model prog w) (A.under (.builtin "type.__call__" ⟨.ref C :: vs, kw⟩)) (.call (.ref f) ⟨.ref (s.heap.objs.size + 1) :: vs, kw⟩) (PySem.W.InitBack (s.heap.objs.size + 1) R)
   { s with heap:=(s.heap.push ww).push (u8 C s.heap.objs.size) }) :
  qq (model prog w) A (.call (.ref C) ⟨vs,kw⟩) R s:=by
 obtain ⟨hh,g,d,t,os⟩:=s
 exact PySem.W.make_core (PySem.W.makes_of X hm) (PySem.W.looks_findIn X hi) (fun self=>PySem.W.bind_fn X self hf) (.inl rfl) h
end
noncomputable def putF (f:Str) (v:V):List (Str × V)→List (Str × V)
 | []=>[(f,v)]
 | (g,x)::r=>if g=f then (g,v)::r else (g,x)::putF f v r
theorem lookup_putF (f g:Str) (v:V):∀ fs:List (Str × V),(putF f v fs).lookup g=if g=f then some v else fs.lookup g:=by
 intro x_0
 induction x_0 with
 | nil =>
  show wk g [(f,v)]=_
  by_cases h:g=f
  ·have hb:(g == f)=true:=beq_iff_eq.mpr h
   simp only [wk,hb,if_pos h]
  ·have hb:(g == f)=false:=beq_eq_false_iff_ne.mpr h
   simp only [wk,hb,if_neg h]
 | cons p_0 r ih_ =>
  obtain ⟨k,x⟩:=p_0
  have ih:=ih_
  rw [show putF f v ((k,x)::r)=(if k=f then (k,v)::r else (k,x)::putF f v r) from rfl]
  by_cases hk:k=f
  ·rw [if_pos hk]
   by_cases h:g=k
   ·have hb:(g == k)=true:=beq_iff_eq.mpr h
    simp only [wk,hb,if_pos (h.trans hk)]
   ·have hb:(g == k)=false:=beq_eq_false_iff_ne.mpr h
    simp only [wk,hb,if_neg (fun e:g=f=>h (e.trans hk.symm))]
  ·rw [if_neg hk]
   by_cases h:g=k
   ·have hb:(g == k)=true:=beq_iff_eq.mpr h
    simp only [wk,hb,if_neg (fun e:g=f=>hk (h.symm.trans e))]
   ·have hb:(g == k)=false:=beq_eq_false_iff_ne.mpr h
    simp only [wk,hb]
    exact ih
theorem keys_putF (f:Str) (v:V):∀ fs:List (Str × V),f∈(putF f v fs).map (·.1)∧∀ g,g∈fs.map (·.1)→g∈(putF f v fs).map (·.1):=by
 intro x_0
 induction x_0 with
 | nil =>
  exact ⟨by simp [putF],fun g h=>by simp at h⟩
 | cons p_0 r ih_ =>
  obtain ⟨k,x⟩:=p_0
  obtain ⟨i1,i2⟩:=ih_
  rw [show putF f v ((k,x)::r)=(if k=f then (k,v)::r else (k,x)::putF f v r) from rfl]
  by_cases hk:k=f
  ·rw [if_pos hk]
   subst hk
   exact ⟨by simp,fun g h=>by simpa using h⟩
  ·rw [if_neg hk]
   refine ⟨?_,fun g h=>?_⟩
   ·rw [zc]
    exact z8 _ i1
   ·rw [zc] at h ⊢
    rcases y6.mp h with e | e
    ·exact y6.mpr (.inl e)
    ·exact z8 _ (i2 g e)
theorem length_putF (f:Str) (v:V):∀ fs:List (Str × V),(putF f v fs).length≤fs.length+1:=by
 intro x_0
 induction x_0 with
 | nil =>
  simp [putF]
 | cons p_0 r ih_ =>
  obtain ⟨k,x⟩:=p_0
  have ih:=ih_
  rw [show putF f v ((k,x)::r)=(if k=f then (k,v)::r else (k,x)::putF f v r) from rfl]
  by_cases hk:k=f
  ·rw [if_pos hk,yx,yx]; exact yc _ _
  ·rw [if_neg hk,yx,yx]; exact r4 ‹_›
theorem RelO.some_of {v:V} {o:Option Value} (r:RelO (some v) o):∃ u,o=some u∧RelV v u:=by
 cases o with
 | none=>exact (show False from r).elim
 | some u=>exact ⟨u,rfl,r⟩
theorem RelO.none_of {o:Option Value} (r:RelO none o):o=none:=by
 cases o with
 | none=>rfl
 | some u=>exact (show False from r).elim
theorem handed_of {v:V} {u:Value} (r:RelV v u):PySem.W.handedIn u=true:=by
 cases v with
 | non=>cases (show u=qu from r); rfl
 | bl b=>cases (show u=Value.bool b from r); rfl
 | int i=>obtain ⟨t,e⟩:=(show ∃ t,u=nc i t from r); subst e; rfl
 | str x=>obtain ⟨t,e⟩:=(show ∃ t,u=Value.str x t from r); subst e; rfl
 | byt b=>obtain ⟨t,e⟩:=(show ∃ t,u=Value.bytes b t from r); subst e; rfl
 | flt b=>obtain ⟨t,e⟩:=(show ∃ t,u=Value.float b t from r); subst e; rfl
 | ref a=>cases (show u=x9 a from r); rfl
 | ty n=>cases (show u=Value.type n from r); rfl
section
variable {P:yp} {w:World} {H H':Hp} {h h':Heap} {a C dx:Addr} {fs fs':List (Str × V)}
theorem jt (hok:HOk P w H h) (e:H a=some (.ins C dx fs)):∃ mA,ObjM h a dx C mA∧(∀ f,RelO (fs.lookup f) (mA f))∧PySem.Within mA (fs.map (·.1))∧fs.length≤1000∧H dx=some (.own a):=by
 refine zz fun P_ k_=>?_
 obtain ⟨d,z,ne,ob,mA,n,r,q⟩:=(show bQ P w H h a (.ins C dx fs) from hok a _ e)
 refine k_ ?_
 exact ⟨mA,⟨ob,n,ne⟩,r,q,z,d⟩
end
structure Cls (K:ze) (C:Addr):Prop where
 pg:rh K C Str.empty=true
 hd:p7 K C=true
 po:m5 K C=true
 sa : xk K (.ref C) "__setattr__" = some (some (.builtin "object.__setattr__"))
theorem Cls.get {K:ze} {C:Addr} (c:Cls K C) (f:Str):rh K C f=true:=c.pg
noncomputable def dC (K:ze) (C:Addr) (f:Str):Prop:=xk K (.ref C) f=some none
theorem dC.taker {K:ze} {C:Addr} {f:Str} (n:dC K C f):PySem.W.takerIn K C f=some none:=by
 unfold PySem.W.takerIn
 rw [show xk K (.ref C) f=some none from n]
 rfl
structure Meth (K:ze) (C:Addr) (m:Str) (f:Addr):Prop where
 at_:xk K (.ref C) m=some (some (.ref f))
 fn:n8 K (.ref f)=true
 kp:yb K (.ref f)=true
section
variable {X:Cx} {pins:List (Addr × Obj)} {σ:St} {H:Hp} {s:Shared} {a C dx:Addr} {fs:List (Str × V)} {f:Str} {v:V} {A:Around} {E:Value→Shared→Prop}
theorem getattr_ok {b:Bool} {Q:Value→Shared→Prop} (I:Inv X pins σ H s) (e:H a=some (.ins C dx fs)) (c:Cls X.K C) (n:dC X.K C f) (l:fs.lookup f=some v)
  (h:∀ u s',Inv X pins σ H s'→RelV v u→Q u s'):wpAny (model X.prog X.w) A (getAttr (.ref a) f b) Q E s:=by
 obtain ⟨mA,O,r,_,_,_⟩:=jt I.hok e
 obtain ⟨u,hu,ru⟩:=RelO.some_of (v:=v) (o:=mA f) (by rw [← l]; exact r f)
 exact get_map I.kIn O (c.get f) c.hd n hu (handed_of ru) (h u _ (I.tok _) ru)
theorem getmeth_ok {m:Str} {g:Addr} {pl:Sem Bool} {Q:Value × List Value→Shared→Prop} (I:Inv X pins σ H s) (e:H a=some (.ins C dx fs)) (c:Cls X.K C) (k:Meth X.K C m g) (l:fs.lookup m=none)
  (h:Q (.ref g,[.ref a]) s):wpAny (model X.prog X.w) A (getMethod (.ref a) m pl) Q E s:=by
 obtain ⟨mA,O,r,_,_,_⟩:=jt I.hok e
 have hn:mA m=none:=RelO.none_of (by rw [← l]; exact r m)
 exact get_meth I.kIn O (c.get m) k.at_ k.fn hn h
theorem setattr_ok {y:V} {u:Value} {Q:Unit→Shared→Prop} (I:Inv X pins σ H s) (e:H a=some (.ins C dx fs)) (c:Cls X.K C) (n:dC X.K C f) (hl:fs.length < 1000) (ry:RelV y u)
  (h:∀ s',Inv X pins σ (upd H a (.ins C dx (putF f y fs))) s'→Q () s'):wpAny (model X.prog X.w) A (setAttr (.ref a) f u) Q E s:=by
 obtain ⟨mA,O,r,wi,_,ho⟩:=jt I.hok e
 have hz:(fs.map (·.1)).length≤y4:=by rw [z7,sg]; exact z5 ‹_› (by decide)
 refine set_map I.kIn O c.sa c.po n.taker c.hd wi hz fun h' O' sb=>h _ ?_
 have hd:∃ o,h'.get? dx=some o:=let ⟨o,_,_,e',_⟩:=O'.ns; ⟨o,e'⟩
 refine I.write (x:=a) (e:=dx) (by rw [e]; exact xm) (.inr ho) (fun b q hb z=>(sb.2 b hb).trans z) hd ?_
 refine ⟨by rw [ah O.ne]; exact ho, ?_,O.ne,O'.obj,_,O'.ns,fun g=>?_,fun g hg=>?_⟩
 ·have:=length_putF f y fs; exact z5 ‹_› ‹_›
 ·show RelO ((putF f y fs).lookup g) (if g=f then some u else mA g)
  rw [lookup_putF]
  by_cases q:g=f
  ·rw [if_pos q,if_pos q]; exact ry
  ·rw [if_neg q,if_neg q]; exact r g
 ·by_cases q:g=f
  ·rw [q]; exact (keys_putF f y fs).1
  ·refine (keys_putF f y fs).2 g (wi g fun z=>hg ?_)
   show (if g=f then some u else mA g)=none
   rw [if_neg q]; exact z
theorem Inv.made (I:Inv X pins σ H s):Inv X pins σ (upd (upd H s.heap.objs.size (.own (s.heap.objs.size+1))) (s.heap.objs.size+1) (.ins C s.heap.objs.size []))
  { s with heap:=(s.heap.push ww).push (u8 C s.heap.objs.size) }:=by
 have e1:(s.heap.push ww).get? s.heap.objs.size=some ww:=zy s.heap rfl
 have e2:((s.heap.push ww).push (u8 C s.heap.objs.size)).get? (s.heap.objs.size+1)=some (u8 C s.heap.objs.size):=by
  have:=zy (s.heap.push ww) (o:=u8 C s.heap.objs.size) rfl
  rwa [ph] at this
 have e3:(s.heap.push ww).Ns s.heap.objs.size (fun _=>none):=⟨ww,#[],_,e1,rfl,(fun e he=>absurd he (by simp)),fun _=>rfl⟩
 have I1:=I.laid (a:=s.heap.objs.size) (o:=.own (s.heap.objs.size+1)) (h':=s.heap.push ww) (t':=s.toks) (fun b u q=>zb _ q) (zf _) ⟨_,e1⟩
 refine I1.laid (a:=s.heap.objs.size+1) (o:=.ins C s.heap.objs.size []) (t':=s.toks) (fun b u q=>zb _ q) (xy (ph _ _)) ?_
 have ne:s.heap.objs.size≠s.heap.objs.size+1:=yh (rj _)
 refine ⟨by rw [ah ne,ai],xc _,ne,e2,fun _=>none,(Heap.Ns1.of_empty e3).at fun o q=>zb _ q,fun _=>xm,fun y hy=>absurd rfl hy⟩
theorem attr_of {prog:yp} {w:World} {env:Env} {e:Expr} {f:Str} {pos:Pos} {s:Shared} {Q:Value→Shared→Prop} (hb:sw e f env (eval e env)=eval e env)
  (h:wpAny (model prog w) A (eval e env) (fun o s₁=>wpAny (model prog w) A (getAttr o f true) Q E s₁) E s):wpAny (model prog w) A (eval (.Attribute e f pos) env) Q E s :=
 Attribute_any_ h (by rw [arm_eval_Attribute,hb])
end
noncomputable def tFld (K:ze) (ta:TE) (f:Str):TE:=fun σ H Q=>ta σ H fun x H1=>∃ a C dx fs v,x=.ref a∧H1 a=some (.ins C dx fs)∧Cls K C∧dC K C f∧fs.lookup f=some v∧Q v H1
noncomputable def sFld (K:ze) (ta tv:TE) (f:Str):TS:=fun D σ H=>tv σ H fun y H1=>ta σ H1 fun x H2=>∃ a C dx fs,x=.ref a∧H2 a=some (.ins C dx fs)∧Cls K C∧dC K C f∧fs.length < 1000 ∧
 D.nx σ (upd H2 a (.ins C dx (putF f y fs)))
section
variable {X:Cx} {o e value:Expr} {f:Str} {pos pos' tpos:Pos} {ta tv:TE}
theorem pe_fld (he:PE X e ta) (hb:sw e f X.env (eval e X.env)=eval e X.env):PE X (.Attribute e f pos) (tFld X.K ta f):=by
 intro pins s σ H Q I h
 refine attr_of hb (thn (he pins s σ H _ I h) fun u s1 hh_=>?_)
 refine zz fun P_ k_=>?_
 obtain ⟨x,H1,I1,rx,a,C,dx,fs,v,ex,ea,c,n,l,q⟩:=hh_
 refine k_ ?_
 subst ex
 obtain rfl:u=x9 a:=rx
 exact getattr_ok I1 ea c n l fun u' s2 I2 ru=>⟨v,H1,I2,ru,q⟩
theorem ps_fld (ha:PE X o ta) (hv:PE X value tv) (hs:ug value (some (.Attribute o f pos')) pos.line X.env=pure false):PS X (.Assign [.Attribute o f pos'] value pos) (sFld X.K ta tv f):=by
 intro pins s σ H D I h
 refine plainObj_wpAny_Assign_Attribute (thn (hv pins s σ H _ I h) fun u s1 hh_=>?_) hs
 refine zz fun P_ k_=>?_
 obtain ⟨y,H1,I1,ry,q⟩:=hh_
 refine k_ ?_
 refine thn (ha pins s1 σ H1 _ I1 q) fun ov s2 hh_=>?_
 refine zz fun P_ k_=>?_
 obtain ⟨x,H2,I2,rx,a,C,dx,fs,ex,ea,c,n,l,q2⟩:=hh_
 refine k_ ?_
 subst ex
 obtain rfl:ov=x9 a:=rx
 exact setattr_ok I2 ea c n l ry fun s3 I3=>⟨σ,_,I3,q2⟩
end
section
variable {X:Cx} {pins:List (Addr × Obj)} {σ:St} {H:Hp} {s:Shared} {A:Around} {E:Value→Shared→Prop} {Q:Value→Shared→Prop} {c:Value} {b:Bool}
inductive TyOf (K:ze) (H:Hp):V→Value→Prop where
 | non : TyOf K H .non (.type "NoneType")
 | bl (x : Bool) : TyOf K H (.bl x) (.type "bool")
 | int (i : Int) : TyOf K H (.int i) (.type "int")
 | str (x : Str) : TyOf K H (.str x) (.type "str")
 | flt (x : UInt64) : TyOf K H (.flt x) (.type "float")
 | lst {a : Addr} {xs : List V} (e : H a = some (.lst xs)) : TyOf K H (.ref a) (.type "list")
 | frz {a : Addr} {o : Obj} {xs : List V} (e : H a = some (.frz o (.lst xs))) : TyOf K H (.ref a) (.type "list")
 | tup {a : Addr} {xs : List V} (e : H a = some (.tup xs)) : TyOf K H (.ref a) (.type "tuple")
 | dK {a : Addr} {kvs : List (Key × V)} (e : H a = some (.dK kvs)) : TyOf K H (.ref a) (.type "dict")
 | dT {a : Addr} {kvs : List (List Key × V)} (e : H a = some (.dT kvs)) : TyOf K H (.ref a) (.type "dict")
 | ins {a C dx : Addr} {fs : List (Str × V)} (e : H a = some (.ins C dx fs)) (cl : Cls K C) (ha : xk K (.ref C) "__class__" = some (some (.builtin "object.__class__")))
   (hn : PySem.W.specialIn K (.builtin "object.__class__") "__get__" = some (some (.builtin "getset_descriptor.__get__"))) (htk : PySem.W.takesIn K (.builtin "object.__class__") = some true)
   (hm : PySem.W.mroIn K C (.type "object") = some true) : TyOf K H (.ref a) (.ref C)
theorem isinst_ok {x:V} {u t:Value} (I:Inv X pins σ H s) (rx:RelV x u) (ty:TyOf X.K H x t) (e:ni X.K t c=some b) (h:∀ tk,Q (.bool b) { s with toks:=tk }) :
  wpAny (model X.prog X.w) A (call (.builtin "isinstance") [u, c]) Q E s := by
 cases ty with
 | non=>cases (show u=qu from rx); exact wn PySem.W.kitx_none I.kIn xm e (fun z=>nomatch z) h
 | bl y=>cases (show u=Value.bool y from rx); exact wn PySem.W.kitx_bool I.kIn xm e (fun z=>nomatch z) h
 | int i=>obtain ⟨t,q⟩:=(show ∃ t,u=nc i t from rx); subst q; exact wn PySem.W.kitx_int I.kIn xm e (fun z=>nomatch z) h
 | str y=>obtain ⟨t,q⟩:=(show ∃ t,u=Value.str y t from rx); subst q; exact wn PySem.W.kitx_str I.kIn xm e (fun z=>nomatch z) h
 | flt y=>obtain ⟨t,q⟩:=(show ∃ t,u=Value.float y t from rx); subst q; exact wn PySem.W.kitx_float I.kIn xm e (fun z=>nomatch z) h
 | @lst a xs ea =>
  cases (show u=x9 a from rx)
  obtain ⟨_,_,n,_,h1⟩:=(show bQ X.prog X.w H s.heap a (.lst xs) from I.hok a _ ea)
  exact wn PySem.W.kitx_list I.kIn ⟨_,h1,rfl⟩ e (fun z=>nomatch z) h
 | @frz a ob xs ea =>
  cases (show u=x9 a from rx)
  obtain ⟨_,_,_,n,_,h1⟩:=(show bQ X.prog X.w H s.heap a (.frz ob (.lst xs)) from I.hok a _ ea)
  exact wn PySem.W.kitx_list I.kIn ⟨_,h1,rfl⟩ e (fun z=>nomatch z) h
 | @tup a xs ea =>
  cases (show u=x9 a from rx)
  obtain ⟨_,_,_,p⟩:=(show bQ X.prog X.w H s.heap a (.tup xs) from I.hok a _ ea)
  obtain ⟨o,h1,h2,_⟩:=p
  exact wn PySem.W.kitx_tuple I.kIn ⟨o,h1,h2⟩ e (fun z=>nomatch z) h
 | @dK a kvs ea =>
  cases (show u=x9 a from rx)
  obtain ⟨_,_,vs,_,p⟩:=(show bQ X.prog X.w H s.heap a (.dK kvs) from I.hok a _ ea)
  obtain ⟨o,es,ep,h1,h2,_⟩:=p
  exact wn PySem.W.kitx_dict I.kIn ⟨o,h1,h2.1⟩ e (fun z=>nomatch z) h
 | @dT a kvs ea =>
  cases (show u=x9 a from rx)
  obtain ⟨_,_,xs,_,o,es,ep,h1,h2,_⟩:=(show bQ X.prog X.w H s.heap a (.dT kvs) from I.hok a _ ea)
  exact wn PySem.W.kitx_dict I.kIn ⟨o,h1,h2.1⟩ e (fun z=>nomatch z) h
 | @ins a C dx fs ea cl ha hn htk hm =>
  cases (show u=x9 a from rx)
  obtain ⟨mA,O,_⟩:=jt I.hok ea
  obtain ⟨od,J,_⟩:=O.look
  exact wn (PySem.W.kitx_own (cl.get _) cl.hd ha hn htk hm) I.kIn J e (fun z=>nomatch z) h
end
end L2
namespace L2
open PySem PySem.Spec PyProof.Rows
structure Room (k:Nat) (A:Around):Prop where
 hd:A.handled=none
 dp:A.depth+3 * k+5 < recursionLimit
 un:A.units+16 * k+200 < cLine
theorem ja {u a b k m n:Nat} (h:a≤b) (q:u+b * (k+1)+m < n):u+a+b * k+m < n:=by
 have e:u+a+b * k≤u+(b * k+b):=z5 (xy (sk u a (b * k))) (z5 (yz h (u+b * k)) (xy (ql u (b * k) b)))
 exact zg (ux e m) q
theorem Room.mono {j k:Nat} {A:Around} (r:Room k A) (h:j≤k):Room j A:=⟨r.hd,zg (ux (yz (uc 3 h) _) 5) r.dp,zg (ux (yz (uc 16 h) _) 200) r.un⟩
theorem Room.deeper {k:Nat} {A:Around} (r:Room (k+1) A) (env:Env):Room k (A.deeper env) :=
 ⟨r.hd,ja (by decide) r.dp,ja (by decide) r.un⟩
theorem make_depth {A : Around} {C : Addr} {us : List Value} {kw : List (Str × Value)} : (A.under (.builtin "type.__call__" ⟨.ref C :: us, kw⟩)).depth = A.depth + 1 := by
 first | rfl | simp [Around.under,Code.weight,Code.isCreation,Code.isGuard,Code.isCaller,Code.frames,Code.isFrame,guardIds]
theorem make_units {A : Around} {C : Addr} {us : List Value} {kw : List (Str × Value)} : (A.under (.builtin "type.__call__" ⟨.ref C :: us, kw⟩)).units = A.units + 1 := by
 first | rfl | simp [Around.under,Code.cUnits,Code.frames,Code.isFrame]
theorem Room.make {k : Nat} {A : Around} (r : Room (k + 1) A) (C : Addr) (us : List Value) (kw : List (Str × Value)) : Room k (A.under (.builtin "type.__call__" ⟨.ref C :: us, kw⟩)) :=
 ⟨r.hd,by rw [make_depth]; exact ja (by decide) r.dp,by rw [make_units]; exact ja (by decide) r.un⟩
theorem Room.depth {k:Nat} {A:Around} (r:Room k A):A.depth < recursionLimit:=zg (z5 (yc _ (3 * k)) (yc _ 5)) r.dp
theorem Room.units {k:Nat} {A:Around} (r:Room k A):A.units+64 < cLine:=zg (wa (yc _ (16 * k)) (by decide)) r.un
noncomputable def tNil:TA:=fun _ H Q=>Q [] H
noncomputable def tCons (ta:TE) (tr:TA):TA:=fun σ H Q=>ta σ H fun x H1=>tr σ H1 fun xs H2=>Q (x::xs) H2
section
variable {X:Cx} {e:Expr} {es:List Expr} {te:TE} {t:TA} {pos:Pos}
theorem bT:PA X [] tNil:=fun _ _ _ _ H Q I h=>rb ⟨[],H,I,.nil,h⟩
theorem bc (ha:PE X e te) (hr:PA X es t) (hs:zh (e::es) X.env=(false,eval e X.env)::zh es X.env:=by rfl):PA X (e::es) (tCons te t):=by
 intro pos pins s σ H Q I h
 rw [hs]
 show wpAny _ _ (spliced ((false,eval e X.env)::backTo pos (zh es X.env))) _ _ s
 refine uo (thn (ha pins s σ H _ I h) fun u s1 hh_=>?_)
 obtain ⟨x,H1,I1,r1,q1⟩:=hh_
 refine thn (hr pos pins s1 σ H1 _ I1 q1) fun us s2 hh_=>?_
 obtain ⟨xs,H2,I2,r2,q2⟩:=hh_
 exact ⟨x::xs,H2,I2,.cons r1 r2,q2⟩
noncomputable def tTup (t:TA):TE:=fun σ H Q=>t σ H fun xs H1=>xs.length≤y4∧∀ p,H1 p=none→Q (.ref p) (upd H1 p (.tup xs))
noncomputable def tLst (t:TA):TE:=fun σ H Q=>t σ H fun xs H1=>xs.length≤y4∧∀ p,H1 p=none→Q (.ref p) (upd H1 p (.lst xs))
theorem pe_tup {x1} (h:PA X es t):PE X (.Tuple es x1 pos) (tTup t):=by
 intro pins s σ H Q I hq
 refine wpAny_Tuple_spliced (thn (h pos pins s σ H _ I hq) fun us s1 hh_=>?_)
 obtain ⟨xs,H1,I1,r,z,q⟩:=hh_
 refine ⟨by rw [← r.length]; exact z, ?_⟩
 have hf:H1 s1.heap.objs.size=none:=I1.hok.fresh (zf _)
 refine ⟨.ref s1.heap.objs.size,upd H1 s1.heap.objs.size (.tup xs),I1.laid (t':=s1.toks) (fun b u e=>zb _ e) (zf _) ?_,rfl,q _ hf⟩
 exact ⟨z,us,r,⟨_,zy _ rfl,rfl,_,rfl⟩⟩
theorem pe_lst (h:PA X es t):PE X (.List es pos) (tLst t):=by
 intro pins s σ H Q I hq
 refine wpAny_List_spliced (thn (h pos pins s σ H _ I hq) fun us s1 hh_=>?_)
 obtain ⟨xs,H1,I1,r,z,q⟩:=hh_
 refine ⟨by rw [← r.length]; exact z, ?_⟩
 have hf:H1 s1.heap.objs.size=none:=I1.hok.fresh (zf _)
 refine ⟨.ref s1.heap.objs.size,upd H1 s1.heap.objs.size (.lst xs),I1.laid (t':=s1.toks) (fun b u e=>zb _ e) (zf _) ?_,rfl,q _ hf⟩
 exact ⟨z,us,0,r,zy _ rfl⟩
end
noncomputable abbrev Sp:=List V→Hp→VK→XK→Prop
noncomputable abbrev CXT:=List Env→Hp→Shared→XK→Value→Shared→Prop
structure Env0 (P:yp) (w:World) (K:ze) (mg:Str→Option Value) (base:Heap) (A:Around) (outer:List Env) (s:Shared) (H:Hp):Prop where
 frames:A.frames=some outer
 mod:Mod K mg base
 bs:∀ b o,base.get? b=some o→s.heap.get? b=some o∧H b=none
 bsz:base.objs.size≤s.heap.objs.size
 funs:s.heap.FunFrames base outer
 frf:∀ b∈frs outer,H b=none
 hok:HOk P w H s.heap
 bare:me s.gens
noncomputable def CE (outer:List Env) (P:yp) (w:World) (H:Hp) (s:Shared) (Q:VK) (u:Value) (s':Shared):Prop :=
 ∃ v H',s'.os=s.os∧me s'.gens∧Un (frs outer) [] H H' s.heap s'.heap∧HOk P w H' s'.heap∧RelV v u∧Q v H'
noncomputable def CR (CX:CXT) (outer:List Env) (P:yp) (w:World) (H:Hp) (s:Shared) (Q:VK) (E:XK) (r:Result) (s':Shared):Prop :=
 match r with
 | .ok (.ret u)=>CE outer P w H s Q u s'
 | .ok _=>False
 | .error e=>CX outer H s E e s'
structure FnOk (P:yp) (w:World) (K:ze) (mg:Str→Option Value) (base:Heap) (CX:CXT) (k:Nat) (f:Addr) (fd:x6) (ps:List Str) (sp:Sp):Prop where
 len:∀ vs H Q E,sp vs H Q E→vs.length=ps.length
 run:∀ (A:Around) (outer:List Env) (s:Shared) (H:Hp) (args:Args) (us:List Value) (vs:List V) (Q:VK) (E:XK),Room k A→Env0 P w K mg base A outer s H→BindsTo s fd args (ps.zip us)→Vals vs us→sp vs H Q E →
  qq (model P w) A (.call (.ref f) args) (CR CX outer P w H s Q E) s
theorem FnOk.imp {P:yp} {w:World} {K:ze} {mg:Str→Option Value} {base:Heap} {CX:CXT} {k:Nat} {f:Addr} {fd:x6} {ps:List Str} {sp sp':Sp} (F:FnOk P w K mg base CX k f fd ps sp)
  (h:∀ vs H Q E,sp' vs H Q E→sp vs H Q E):FnOk P w K mg base CX k f fd ps sp' :=
 ⟨fun vs H Q E q=>F.len vs H Q E (h _ _ _ _ q),fun A outer s H args us vs Q E hr he hb hv hs=>F.run A outer s H args us vs Q E hr he hb hv (h _ _ _ _ hs)⟩
theorem Env0.make {P:yp} {w:World} {K:ze} {mg:Str→Option Value} {base:Heap} {A:Around} {outer:List Env} {s:Shared} {H:Hp} (e:Env0 P w K mg base A outer s H) (C:Addr) (us:List Value) (kw:List (Str × Value)) :
  Env0 P w K mg base (A.under (.builtin "type.__call__" ⟨.ref C :: us, kw⟩)) outer s H := ⟨by first | exact e.frames | (simpa [Around.under, Code.envs, Code.isFrame, pushEnvs] using e.frames), e.mod, e.bs, e.bsz, e.funs, e.frf, e.hok, e.bare⟩
section
variable {X:Cx} {pins:List (Addr × Obj)} {σ:St} {H:Hp} {s s':Shared}
theorem Inv.env0 (I:Inv X pins σ H s):Env0 X.prog X.w X.K X.mg X.base X.A X.stack s H :=
 ⟨I.ok.frames,I.ok.mod,I.bs,z5 I.ok.bsz I.sz,I.stack,I.stkFree,I.hok,I.bare⟩
theorem Inv.after {Q:VK} {u:Value} (I:Inv X pins σ H s) (h:CE X.stack X.prog X.w H s Q u s'):EP X pins σ Q u s':=by
 obtain ⟨v,H',os,bare,un,hok,r,q⟩:=h
 obtain ⟨hh,g,d,t,os'⟩:=s'
 obtain rfl:os'=s.os:=os
 exact ⟨v,H',I.call (h':=hh) (g':=g) (d':=d) (t':=t) (ch:=[]) un hok bare (fun b z=>absurd z (by simp)),r,q⟩
end
noncomputable def tCall (sp:Sp) (dvs:List V) (E:XK) (t:TA):TE:=fun σ H Q=>t σ H fun vs H1=>sp (vs++dvs) H1 Q E
noncomputable def tMeth (C:Addr) (m:Str) (sp:Sp) (dvs:List V) (E:XK) (ta:TE) (t:TA):TE:=fun σ H Q=>ta σ H fun x H1=>∃ a dx fs,x=.ref a∧H1 a=some (.ins C dx fs)∧fs.lookup m=none ∧
 t σ H1 fun vs H2=>sp (x::(vs++dvs)) H2 Q E
noncomputable def tMake (C:Addr) (sp:Sp) (dvs:List V) (E:XK) (t:TA):TE:=fun σ H Q=>t σ H fun vs H1=>∀ x dx,H1 x=none→H1 dx=none→dx≠x →
 sp (.ref x::(vs++dvs)) (upd (upd H1 dx (.own x)) x (.ins C dx [])) (fun v H2=>v=.non∧Q (.ref x) H2) E
noncomputable def eN (K:ze) (fd:x6) (ps:List Str) (ds:List Value):Prop :=
 ∀ (s:Shared) (us:List Value),K.In s.heap→(us++ds).length=ps.length→BindsTo s fd ⟨us,[]⟩ (ps.zip (us++ds))
theorem eN.all {K:ze} {fd:x6} {ps:List Str} (h:∀ us:List Value,us.length=ps.length→wj fd ⟨us,[]⟩=pure (ps.zip us)):eN K fd ps []:=fun s us _ hl=>by
 rw [xf] at hl ⊢
 exact .of_eq (h us hl)
noncomputable def iN (CX:CXT) (X:Cx) (E:XK):Prop:=∀ (pins:List (Addr × Obj)) (σ:St) (H:Hp) (s:Shared) (e:Value) (s':Shared),Inv X pins σ H s→CX X.stack H s E e s'→X.xe e s'
section
variable {X:Cx} {CX:CXT} {k:Nat} {f C:Addr} {fd:x6} {ps:List Str} {sp:Sp} {dvs:List V} {ds:List Value} {E:XK} {x m:Str} {p pos apos:Pos} {e o:Expr} {es:List Expr} {ta:TE} {t:TA}
theorem run_fn {pins:List (Addr × Obj)} {σ:St} {H:Hp} {s:Shared} {Q:VK} {us:List Value} {vs:List V} (F:FnOk X.prog X.w X.K X.mg X.base CX k f fd ps sp) (hr:Room k X.A) (hb:eN X.K fd ps ds) (hd:Vals dvs ds) (hx:iN CX X E)
  (I:Inv X pins σ H s) (r:Vals vs us) (h:sp (vs++dvs) H Q E):wpAny (model X.prog X.w) X.A (call (.ref f) us) (EP X pins σ Q) X.xe s:=by
 have r2:Vals (vs++dvs) (us++ds):=r.append hd
 have hl:(us++ds).length=ps.length:=by rw [← r2.length]; exact F.len _ _ _ _ h
 refine wpAny_call (codeAny_mono (F.run X.A X.stack s H ⟨us,[]⟩ (us++ds) (vs++dvs) Q E hr I.env0 (hb s us I.kIn hl) r2 h) fun r s' hq=>?_)
 cases r with
 | error e=>exact hx pins σ H s e s' I hq
 | ok fl =>
  cases fl with
  | ret u=>exact I.after hq
  | next=>exact ub hq
  | brk=>exact ub hq
  | cont=>exact ub hq
theorem pe_call (F:FnOk X.prog X.w X.K X.mg X.base CX k f fd ps sp) (hr:Room k X.A) (hg:Gl X x) (hm:X.mg x=some (.ref f)) (hk:yb X.K (.ref f)=true) (hb:eN X.K fd ps ds) (hd:Vals dvs ds) (hx:iN CX X E)
  (ha : PA X (e :: es) t) (hdb : (x == ("__debug__" : Str)) = false := by decide) (he : zh (e :: es) X.env = (false, eval e X.env) :: zh es X.env := by rfl) (hpl : (backTo pos (zh es X.env)).any (·.1) = false := by rfl) :
  PE X (.Call (.Name x p) (e::es) [] pos) (tCall sp dvs E t):=by
 intro pins s σ H Q I h
 refine uj (ld_glob I hg hm ?_ hdb)
 refine nj (h₀:=X.base) I.ok.mod.kin hk (thn (ha pos pins s σ H _ I h) fun us s1 hh_=>?_) he hpl
 obtain ⟨vs,H1,I1,r,q⟩:=hh_
 refine ⟨I1.kIn, ?_⟩
 exact run_fn F hr hb hd hx I1 r q
theorem pe_meth {pl:Sem Bool} (he:PE X o ta) (c:Cls X.K C) (hm:Meth X.K C m f) (F:FnOk X.prog X.w X.K X.mg X.base CX k f fd ps sp) (hr:Room k X.A) (hb:eN X.K fd ps ds) (hd:Vals dvs ds) (hx:iN CX X E) (ha:PA X (e::es) t)
  (hst:zh (e::es) X.env=(false,eval e X.env)::zh es X.env:=by rfl) (hpl:(backTo pos (zh es X.env)).any (·.1)=false:=by rfl)
  (ht:eval (.Call (.Attribute o m apos) (e::es) [] pos) X.env=(do
   let ov ← eval o X.env
   standAt apos.atName
   let (f,first) ← holding [ov] (getMethod ov m pl)
   callWith pos f first (backTo pos (zh (e::es) X.env)) (backToKw pos (o3 [] X.env))):=by rfl) :
  PE X (.Call (.Attribute o m apos) (e::es) [] pos) (tMeth C m sp dvs E ta t):=by
 intro pins s σ H Q I h
 refine PySem.W.methodCall_KW (pl:=pl) (thn (he pins s σ H _ I h) fun u s1 hh_=>?_) ht
 refine zz fun P_ k_=>?_
 obtain ⟨x,H1,I1,rx,a,dx,fs,ex,ea,l,q⟩:=hh_
 refine k_ ?_
 subst ex
 obtain rfl:u=x9 a:=rx
 refine getmeth_ok I1 ea c hm l ?_
 refine nj (first:=[.ref a]) (h₀:=X.base) I.ok.mod.kin hm.kp (thn (ha pos pins s1 σ H1 _ I1 q) fun us s2 hh_=>?_) hst hpl
 refine zz fun P_ k_=>?_
 obtain ⟨vs,H2,I2,r,q2⟩:=hh_
 refine k_ ?_
 refine ⟨I2.kIn, ?_⟩
 exact run_fn (us:=.ref a::us) (vs:=.ref a::vs) F hr hb hd hx I2 (.cons rfl r) q2
structure Mk (K:ze) (C f:Addr):Prop where
 makes:PySem.W.makesIn K C=true
 init : xk K (.ref C) "__init__" = some (some (.ref f))
 fn:n8 K (.ref f)=true
 kp:yb K (.ref C)=true
theorem gf {pins:List (Addr × Obj)} {σ:St} {H:Hp} {s:Shared} {Q:VK} {us:List Value} {vs:List V} (M:Mk X.K C f) (F:FnOk X.prog X.w X.K X.mg X.base CX k f fd ps sp) (hr:Room (k+1) X.A) (hb:eN X.K fd ps ds) (hd:Vals dvs ds)
  (hx:iN CX X E) (I:Inv X pins σ H s) (r:Vals vs us)
  (h:∀ x dx,H x=none→H dx=none→dx≠x→sp (.ref x::(vs++dvs)) (upd (upd H dx (.own x)) x (.ins C dx [])) (fun v H2=>v=.non∧Q (.ref x) H2) E) :
  wpAny (model X.prog X.w) X.A (call (.ref C) us) (EP X pins σ Q) X.xe s:=by
 have hq:=h (s.heap.objs.size+1) s.heap.objs.size (I.hok.fresh (rf _)) (I.hok.fresh (zf _)) (yh (rj _))
 have I2:=Inv.made (C:=C) I
 have r2:Vals (V.ref (s.heap.objs.size+1)::(vs++dvs)) (x9 (s.heap.objs.size+1)::(us++ds)):=.cons rfl (r.append hd)
 have hl:(x9 (s.heap.objs.size+1)::us++ds).length=ps.length:=by
  have e:=r2.length
  rw [F.len _ _ _ _ hq] at e
  exact e.symm
 refine wpAny_call (make_map (f:=f) I.kIn M.makes M.init (beq_iff_eq.mp M.fn) (codeAny_mono (F.run _ X.stack _ _ ⟨x9 (s.heap.objs.size+1)::us,[]⟩ (x9 (s.heap.objs.size+1)::(us++ds)) _ _ E (hr.make C us [])
  (I2.env0.make C us []) (hb _ (x9 (s.heap.objs.size+1)::us) I2.kIn hl) r2 hq) fun r s' hq'=>?_))
 cases r with
 | error e=>exact hx pins σ _ _ e s' I2 hq'
 | ok fl =>
  cases fl with
  | ret u =>
   obtain ⟨v,H',I3,rv,ev,q3⟩:=I2.after hq'
   subst ev
   exact ⟨rv,⟨V.ref (s.heap.objs.size+1),H',I3,rfl,q3⟩⟩
  | next=>exact ub hq'
  | brk=>exact ub hq'
  | cont=>exact ub hq'
theorem pe_make (M:Mk X.K C f) (F:FnOk X.prog X.w X.K X.mg X.base CX k f fd ps sp) (hr:Room (k+1) X.A) (hg:Gl X x) (hm:X.mg x=some (.ref C)) (hb:eN X.K fd ps ds) (hd:Vals dvs ds) (hx:iN CX X E)
  (ha : PA X (e :: es) t) (hdb : (x == ("__debug__" : Str)) = false := by decide) (he : zh (e :: es) X.env = (false, eval e X.env) :: zh es X.env := by rfl) (hpl : (backTo pos (zh es X.env)).any (·.1) = false := by rfl) :
  PE X (.Call (.Name x p) (e::es) [] pos) (tMake C sp dvs E t):=by
 intro pins s σ H Q I h
 refine uj (ld_glob I hg hm ?_ hdb)
 refine nj (h₀:=X.base) I.ok.mod.kin M.kp (thn (ha pos pins s σ H _ I h) fun us s1 hh_=>?_) he hpl
 obtain ⟨vs,H1,I1,r,q⟩:=hh_
 refine ⟨I1.kIn, ?_⟩
 exact gf M F hr hb hd hx I1 r q
end
section
variable {X:Cx} {CX:CXT} {k:Nat} {f C:Addr} {fd:x6} {ps ks:List Str} {sp:Sp} {E:XK} {x m:Str} {p pos apos kpos:Pos} {e o:Expr} {es:List Expr} {kws:List Keyword} {te ta:TE} {t tk:TA} {nm:Option Str}
variable {g:List Value→List Value→List Value} {gV:List V→List V→List V}
end
structure aO (N P:List Str) (sc:Scope):Prop where
 kind:sc.kind=.function
 co:sc.isCoroutine=false
 gen:sc.isGenerator=false
 nd:N.Nodup
 pre:N.take P.length=P
 par:∀ x∈P,sc.names.lookup x=some .local∨sc.names.lookup x=some .cell
 nofree:∀ y∈sc.names,y.2 ≠ .free
theorem bindL_out {kindOf:Str→Option ya} {x:Str}:∀ {binds:List (Str × Value)} {m:Str→Option Value},(∀ v,(x,v)∉binds)→bindL kindOf binds m x=m x:=by
 intro x_0
 induction x_0 with
 | nil =>
  intro _ _
  exact rfl
 | cons p_0 r ih_ =>
  obtain ⟨n,v⟩:=p_0
  intro m h
  unfold bindL
  rw [ih_ fun w hw=>h w (z8 _ hw)]
  split
  ·have:x≠n:=by rintro rfl; exact h v za
   simp [this]
  ·rfl
theorem bindC_out {kindOf:Str→Option ya} {x:Str}:∀ {binds:List (Str × Value)} {m:Str→Option Value},(∀ v,(x,v)∉binds)→bindC kindOf binds m x=m x:=by
 intro x_0
 induction x_0 with
 | nil =>
  intro _ _
  exact rfl
 | cons p_0 r ih_ =>
  obtain ⟨n,v⟩:=p_0
  intro m h
  unfold bindC
  rw [ih_ fun w hw=>h w (z8 _ hw)]
  split
  ·rfl
  ·have:x≠n:=by rintro rfl; exact h v za
   simp [this]
theorem bindL_get {kindOf:Str→Option ya} {x:Str} {v:Value}:∀ {P:List Str} {vs:List Value} {i:Nat} {m:Str→Option Value},P.Nodup→P[i]?=some x→vs[i]?=some v→kindOf x=some .local →
  bindL kindOf (P.zip vs) m x=some v:=by
 intro x_0
 induction x_0 with
 | nil =>
  intro _ _ _ _ h _ _
  simp at h
 | cons p P ih_ =>
  intro x_1
  cases x_1 with
  | nil =>
   intro _ _ _ _ h _
   simp at h
  | cons w vs =>
   intro x_2
   cases x_2 with
   | zero =>
    intro m nd h1 h2 hk
    simp at h1 h2; subst h1; subst h2
    show bindL kindOf ((p,w)::P.zip vs) m p=_
    unfold bindL
    rw [bindL_out fun v hv=>(y0.mp nd).1 (List.of_mem_zip hv).1,if_pos hk]
    simp
   | succ i =>
    intro m nd h1 h2 hk
    show bindL kindOf ((p,w)::P.zip vs) m x=_
    unfold bindL
    exact ih_ (y0.mp nd).2 (by simpa using h1) (by simpa using h2) hk
theorem bindC_get {kindOf:Str→Option ya} {x:Str} {v:Value}:∀ {P:List Str} {vs:List Value} {i:Nat} {m:Str→Option Value},P.Nodup→P[i]?=some x→vs[i]?=some v→kindOf x≠some .local →
  bindC kindOf (P.zip vs) m x=some v:=by
 intro x_0
 induction x_0 with
 | nil =>
  intro _ _ _ _ h _ _
  simp at h
 | cons p P ih_ =>
  intro x_1
  cases x_1 with
  | nil =>
   intro _ _ _ _ h _
   simp at h
  | cons w vs =>
   intro x_2
   cases x_2 with
   | zero =>
    intro m nd h1 h2 hk
    simp at h1 h2; subst h1; subst h2
    show bindC kindOf ((p,w)::P.zip vs) m p=_
    unfold bindC
    rw [bindC_out fun v hv=>(y0.mp nd).1 (List.of_mem_zip hv).1,if_neg hk]
    simp
   | succ i =>
    intro m nd h1 h2 hk
    show bindC kindOf ((p,w)::P.zip vs) m x=_
    unfold bindC
    exact ih_ (y0.mp nd).2 (by simpa using h1) (by simpa using h2) hk
noncomputable def dI (N:List Str) (vs:List V):St:=vs.map some++yt (N.length - vs.length) none
noncomputable def cxOf (CX:CXT) (P:yp) (w:World) (K:ze) (mg:Str→Option Value) (base:Heap) (N:List Str) (qual:Str) (scope:Scope) (f:Addr) (cd:Value) (A:Around) (outer:List Env) (s:Shared) (H:Hp) (E:XK):Cx where
 prog:=P
 w:=w
 K:=K
 mg:=mg
 base:=base
 A:=A.deeper (envOfC qual scope s.heap.objs.size f cd)
 N:=N
 s₀:=s
 H₀:=H
 env:=envOfC qual scope s.heap.objs.size f cd
 outer:=outer
 stack:=envOfC qual scope s.heap.objs.size f cd::outer
 ex:=[]
 calm:=true
 fn:=fun _=>true
 pn:=[]
 xe:=fun e s'=>wpAny (model P w) (A.deeper (envOfC qual scope s.heap.objs.size f cd)) (leaving (envOfC qual scope s.heap.objs.size f cd) e) (fun _ s''=>CX outer H s E e s'') (fun e' s''=>CX outer H s E e' s'') s'
theorem cell_has {sc:Scope} {n:Nat} {x:Str} (h:sc.names.lookup x=some .cell):∃ c,(cellsFrom n sc.names []).lookup x=some c:=by
 have q:=PySem.W.cellsFrom_some sc.names n [] (.inl h)
 exact t6.mp q
theorem inv_start {CX:CXT} {P:yp} {w:World} {K:ze} {mg:Str→Option Value} {base:Heap} {N ps:List Str} {qual:Str} {scope:Scope} {f:Addr} {cd:Value} {A:Around} {outer:List Env} {s s1:Shared} {H:Hp} {E:XK} {us:List Value} {vs:List V}
  (S:aO N ps scope) (hd:A.handled=none) (e0:Env0 P w K mg base A outer s H) (hl:vs.length=ps.length) (r:Vals vs us)
  (x:InCallC s s.heap.objs.size (bindL (envOfC qual scope s.heap.objs.size f cd).kindOf (ps.zip us) fun _=>none) (cellsFrom (s.heap.objs.size+1) scope.names []) (bindC (envOfC qual scope s.heap.objs.size f cd).kindOf (ps.zip us) fun _=>none) s1) :
  Inv (cxOf CX P w K mg base N qual scope f cd A outer s H E) [] (dI N vs) H s1:=by
 have hpl:ps.length≤N.length:=by have:=congrArg vg S.pre; rw [tz] at this; omega
 obtain ⟨h1,tk,rfl,hk⟩:=x.done
 have noA:∀ b:Addr,b∉(cxOf CX P w K mg base N qual scope f cd A outer s H E).ex:=fun b z=>absurd (show b∈([]:List Addr) from z) (by simp)
 refine ⟨⟨e0.mod,S.kind,rfl,rfl,zf _,fun y z c h1 h2=>?_,fun y hy=>?_,fun y c _ h=>?_,fun _=>hd,Around.frames_deeper e0.frames,.inr ⟨rfl,rfl⟩,fun b z=>absurd z (noA b),e0.bs,e0.bsz,fun b _ _=>noA b,fun b z=>absurd z (noA b),e0.funs,e0.frf⟩,
  rfl,e0.bare,Un.kept hk,⟨_,x.toInCall.ns,fun i y v h1 h2 h3=>?_⟩,fun y c h=>⟨_,x.cell y c h⟩,e0.hok.fresh (zf _),fun y c h=>?_,fun p hp=>absurd (show p∈([]:List (Addr × Obj)) from hp) (by simp),e0.hok.kept hk, ?_⟩
 ·exact name_of_addr x.apart (tj h1) (tj h2)
 ·have hy:scope.names.lookup y=some .cell∨scope.names.lookup y=some .free:=hy
  rcases hy with hy | hy
  ·exact cell_has hy
  ·exact absurd rfl (S.nofree _ (tj hy))
 ·exact xn (x.above y c (tj h))
 ·have hi:i < vs.length:=by
   unfold dI at h2
   by_cases hi:i < vs.length
   ·exact hi
   ·rw [um (by simpa using hi)] at h2
    rw [sd] at h2
    split at h2 <;> (first | injection h2; done | injection h2 with h2; injection h2; done)
  have ha:vs[i]?=some v:=by
   unfold dI at h2
   rw [w6 (by simpa using hi),yn] at h2
   cases e:vs[i]? with
   | none=>rw [e] at h2; injection h2
   | some a=>rw [e] at h2; cases h2; rfl
  obtain ⟨u,hu,rv⟩:=r.get ha
  have hp:ps[i]?=some y:=by
   rw [← S.pre,List.getElem?_take_of_lt (by omega)]; exact h1
  have ndP:ps.Nodup:=by rw [← S.pre]; exact S.nd.sublist (List.take_sublist _ _)
  refine ⟨u,rv, ?_⟩
  rcases S.par y (o5 hp) with k | k
  ·exact .inl ⟨k,bindL_get ndP hp hu k⟩
  ·obtain ⟨c,e⟩:=cell_has (n:=s.heap.objs.size+1) k
   refine .inr ⟨.inl k,c,e, ?_⟩
   have q:=x.cell y c e
   rw [bindC_get ndP hp hu (by show scope.names.lookup y≠_; rw [k]; decide)] at q
   exact q
 ·exact e0.hok.fresh (xn (x.above y c (tj h)))
 ·unfold dI
  show _=N.length
  rw [zl,z7,pi]
  omega
theorem fn_of {CX:CXT} {P:yp} {w:World} {K:ze} {mg:Str→Option Value} {base:Heap} {k:Nat} {f:Addr} {name qual:Str} {params:Arguments} {body:List Stmt} {scope:Scope} {dV kV doc pm cdv ct oc:Value} {an od:Option Addr}
  {osl:Array (Option Value)} {N ps:List Str} {sp:Sp} (lk:K.lookup f=some ⟨oc,od,.func (zp name qual params body scope dV kV doc pm an cdv ct),osl⟩) (hcd:yo K cdv qual=true) (S:aO N ps scope)
  (len:∀ vs H Q E,sp vs H Q E→vs.length=ps.length)
  (hbody:∀ (A:Around) (outer:List Env) (s:Shared) (H:Hp) (vs:List V) (Q:VK) (E:XK),Room k (A.deeper (envOfC qual scope s.heap.objs.size f cdv))→sp vs H Q E →
   ∃ t,PSs (cxOf CX P w K mg base N qual scope f cdv A outer s H E) body t∧t { nx:=fun _ H'=>Q .non H',rt:=Q } (dI N vs) H) :
  FnOk P w K mg base CX (k+1) f (zp name qual params body scope dV kV doc pm an cdv ct) ps sp:=by
 refine ⟨len,fun A outer s H args us vs Q E hr e0 hb r hsp=>?_⟩
 have hl:=len _ _ _ _ hsp
 have KX:K.In s.heap:=e0.mod.kin.keeps fun b o e=>(e0.bs b o e).1
 have lim:s.heap.NoLimit:=e0.mod.nolimit.keeps fun b o e=>(e0.bs b o e).1
 have hkind:∀ y∈ps.zip us,scope.names.lookup y.1=some .local∨(scope.names.lookup y.1=some .cell∧((cellsFrom (s.heap.objs.size+1) scope.names []).lookup y.1).isSome=true):=fun ⟨n,v⟩ hy=>by
  rcases S.par n (List.of_mem_zip hy).1 with q | q
  ·exact .inl q
  ·exact .inr ⟨q,PySem.W.cellsFrom_some _ _ _ (.inl q)⟩
 refine codeAny_call_function hr.depth (KX _ _ lk) rfl S.co S.gen rfl (PySem.W.codeRec_of KX hcd) (hb _ _ _ _ ?_)
 refine wpAny_newFunctionEnv_cells S.kind hkind fun env he s1 x=>?_
 subst he
 refine ⟨lim.keeps x.toInCall.keep,codeAny_func ?_⟩
 obtain ⟨t,ht,hq⟩:=hbody A outer s H vs Q E (hr.deeper _) hsp
 have I:Inv (cxOf CX P w K mg base N qual scope f cdv A outer s H E) [] (dI N vs) H s1:=inv_start S hr.hd e0 hl r x
 refine wu (ht [] s1 (dI N vs) H _ I hq) (fun fl s' hs=>?_) fun e s' hs=>hs
 have fin:∀ {σ':St} {H':Hp} {v:V} {u:Value},Inv (cxOf CX P w K mg base N qual scope f cdv A outer s H E) [] σ' H' s'→RelV v u→Q v H'→CE outer P w H s Q u s' :=
  fun {σ' H' v u} J rv q=>⟨v,H',J.os,J.bare,J.base,J.hok,rv,q⟩
 cases fl with
 | ret u =>
  obtain ⟨v,σ',H',J,rv,q⟩:=hs
  exact fin J rv q
 | next =>
  obtain ⟨σ',H',J,q⟩:=hs
  exact fin (v:=V.non) (u:=qu) J rfl q
 | brk =>
  obtain ⟨_,_,_,q⟩:=hs
  exact ub q
 | cont =>
  obtain ⟨_,_,_,q⟩:=hs
  exact ub q
end L2
namespace L2
open PySem PySem.Spec PyProof.Rows
section
variable {X:Cx} {x:Str} {p pos:Pos} {e:Expr} {es:List Expr} {t:TA} {id T:String} {r:List V→Hp→VK→Prop}
noncomputable def tCB (r:List V→Hp→VK→Prop) (t:TA):TE:=fun σ H Q=>t σ H fun vs H1=>r vs H1 Q
theorem pe_callB (hc : CallR X (.builtin id) r) (hg : Gl X x) (hm : X.mg x = none) (hv : yr x = some (.builtin id)) (ha : PA X (e :: es) t) (hn : x ≠ "__name__" := by decide) (hdb : (x == ("__debug__" : Str)) = false := by decide)
  (he:zh (e::es) X.env=(false,eval e X.env)::zh es X.env:=by rfl) (hpl:(backTo pos (zh es X.env)).any (·.1)=false:=by rfl):PE X (.Call (.Name x p) (e::es) [] pos) (tCB r t):=by
 intro pins s σ H Q I h
 refine uj (gM I hg hm hv ?_ hn hdb)
 refine PyProof.Rows.callWith_builtin1 (thn (ha pos pins s σ H _ I h) fun us s1 hh_=>?_) he hpl
 obtain ⟨vs,H1,I1,r1,q1⟩:=hh_
 exact hc pins s1 σ H1 vs us Q I1 r1 q1
theorem pe_callTy (hc : CallR X (.type T) r) (hg : Gl X x) (hm : X.mg x = none) (hv : yr x = some (.type T)) (ha : PA X (e :: es) t) (hn : x ≠ "__name__" := by decide) (hdb : (x == ("__debug__" : Str)) = false := by decide)
  (he:zh (e::es) X.env=(false,eval e X.env)::zh es X.env:=by rfl) (hpl:(backTo pos (zh es X.env)).any (·.1)=false:=by rfl):PE X (.Call (.Name x p) (e::es) [] pos) (tCB r t):=by
 intro pins s σ H Q I h
 refine uj (gM I hg hm hv ?_ hn hdb)
 refine vh (thn (ha pos pins s σ H _ I h) fun us s1 hh_=>?_) he hpl
 obtain ⟨vs,H1,I1,r1,q1⟩:=hh_
 exact hc pins s1 σ H1 vs us Q I1 r1 q1
end
end L2
namespace HT
open PySem PyProof.Rows
section
open PySem.SeqAt
open PySem.AutoSeq1 (wpAny_loadPart')
open PySem.MeetsSeq PySem.MeetsSeq2 PySem.MeetsSeq3
end
section
variable {prog:yp} {w:World} {A:Around} {E:Value→Shared→Prop} {s:Shared}
noncomputable def sIx (n d:Nat):Option Int→Nat
 | none=>d
 | some v=>if v < 0 then (v+(n:Int)).toNat else min v.toNat n
theorem slicePart_ {v:Value} {o:Option Int} {Q:Option Int→Shared→Prop} (p:IsPart v o) (h:Q o s):wpAny (model prog w) A (xa.Slice.slicePartIndex v) Q E s:=by
 cases p with
 | none=>exact slicePart_none h
 | int i t=>exact slicePart_int h
end
end HT
namespace L2
open PySem PySem.Spec PyProof.Rows
noncomputable abbrev TO:=St→Hp→(Option Int→Hp→Prop)→Prop
noncomputable def PO (X:Cx) (e:Option Expr) (t:TO):Prop :=
 ∀ (pins:List (Addr × Obj)) (s:Shared) (σ:St) (H:Hp) (Q:Option Int→Hp→Prop),Inv X pins σ H s→t σ H Q →
  wpAny (model X.prog X.w) X.A (evalPart e X.env) (fun u s'=>∃ o H',Inv X pins σ H' s'∧IsPart u o∧Q o H') X.xe s
noncomputable def tNoPart:TO:=fun _ H Q=>Q none H
noncomputable def tPart (t:TE):TO:=fun σ H Q=>t σ H fun x H1=>∃ i,x=.int i∧Q (some i) H1
theorem io {ns:List Int}:∀ {us:List Value},Vals (ns.map V.int) us→pf us ns:=by
 induction ns with
 | nil=>intro us r; rw [List.map_nil] at r; cases r; exact .nil
 | cons n ns ih =>
  intro us r
  rw [zc] at r
  cases r with
  | cons r1 r2 =>
   obtain ⟨t,e⟩:=r1
   subst e
   exact .cons n t (ih r2)
section
variable {X:Cx} {e:Expr} {te:TE} {lo hi:Option Expr} {tl th:TO} {pos p2:Pos}
theorem po_none:PO X none tNoPart:=by
 intro pins s σ H Q I h
 rw [evalPart_none]
 exact zr ⟨none,H,I,.none,h⟩
theorem po_some (h:PE X e te):PO X (some e) (tPart te):=by
 intro pins s σ H Q I hw
 rw [evalPart_some]
 refine thn (h pins s σ H _ I hw) fun u s1 hh_=>?_
 obtain ⟨x,H1,I1,r1,q1⟩:=hh_
 obtain ⟨i,rfl,q⟩:=q1
 obtain ⟨t,rfl⟩:=r1
 exact ⟨some i,H1,I1,.int i t,q⟩
noncomputable def SlR (X:Cx) (r:V→Option Int→Option Int→Hp→VK→Prop):Prop :=
 ∀ (pins:List (Addr × Obj)) (s:Shared) (σ:St) (H:Hp) (x:V) (v vl vu:Value) (lo hi:Option Int) (sl:Addr) (Q:VK),Inv X pins σ H s→RelV x v→s.heap.IsSliceOf sl vl vu .none→IsPart vl lo→IsPart vu hi→r x lo hi H Q →
  ∃ T id, pp (.type T) "__getitem__" = pure (some (.builtin id)) ∧ s.TypeIs v T ∧ wpAny (model X.prog X.w) X.A (getItem v (.ref sl)) (EP X pins σ Q) X.xe s
noncomputable def tSl (r:V→Option Int→Option Int→Hp→VK→Prop) (te:TE) (tl th:TO):TE:=fun σ H Q=>te σ H fun x H1=>tl σ H1 fun l H2=>th σ H2 fun u H3=>r x l u H3 Q
theorem pe_slice {r:V→Option Int→Option Int→Hp→VK→Prop} (hr:SlR X r) (he:PE X e te) (hl:PO X lo tl) (hu:PO X hi th):PE X (.Subscript e (.Slice lo hi none p2) pos) (tSl r te tl th):=by
 intro pins s σ H Q I h
 refine Subscript_ (thn (he pins s σ H _ I h) fun v s1 hh_=>?_)
 refine zz fun P_ k_=>?_
 obtain ⟨x,H1,I1,r1,q1⟩:=hh_
 refine k_ ?_
 refine wpAny_Slice (thn (hl pins s1 σ H1 _ I1 q1) fun vl s2 hh_=>?_)
 refine zz fun P_ k_=>?_
 obtain ⟨l,H2,I2,pl,q2⟩:=hh_
 refine k_ ?_
 refine thn (hu pins s2 σ H2 _ I2 q2) fun vu s3 hh_=>?_
 refine zz fun P_ k_=>?_
 obtain ⟨u,H3,I3,pu,q3⟩:=hh_
 refine k_ ?_
 rw [evalPart_none]
 refine zr ?_
 have I4 : Inv X pins σ H3 { s3 with heap := s3.heap.push { cls := .type "slice", data := .fields #[vl, vu, .none] } } := I3.kept (t' := s3.toks) fun b ob q => zb _ q
 refine zz fun P_ k_=>?_
 obtain ⟨T, id, hT, ht, hg⟩ := hr pins { s3 with heap := s3.heap.push { cls := .type "slice", data := .fields #[vl, vu, .none] } } σ H3 x v vl vu l u s3.heap.objs.size Q I4 r1 (nu ..) pl pu q3
 refine k_ ?_
 show wpAny (model X.prog X.w) X.A (o0 e (.Slice lo hi none p2) v (.ref s3.heap.objs.size)) (EP X pins σ Q) X.xe { s3 with heap := s3.heap.push { cls := .type "slice", data := .fields #[vl, vu, .none] } }
 exact tail_any (ops:=[.ref s3.heap.objs.size,v]) ht hT hg (by with_unfolding_all rfl)
noncomputable def cutV (xs:List V) (lo hi:Option Int):List V:=(xs.drop (HT.sIx xs.length 0 lo)).take (HT.sIx xs.length xs.length hi - HT.sIx xs.length 0 lo)
theorem cutV_length (xs:List V) (lo hi:Option Int):(cutV xs lo hi).length≤xs.length:=by
 unfold cutV
 rw [tz,ui]
 exact z5 (pv _ _) (Nat.sub_le _ _)
end
end L2
namespace L2
open PySem PySem.Spec PyProof.Rows
noncomputable def ixN (n:Nat) (i:Int):Option Nat:=if 0≤i then (if i < n then some i.toNat else none) else if -(n:Int)≤i then some (i+n).toNat else none
noncomputable def atI {α:Type} (xs:List α) (i:Int):Option α:=(ixN xs.length i).bind fun j=>xs[j]?
theorem ixN_seq {n:Nat} {i:Int} {j:Nat} (h:ixN n i=some j):seqIndex? i n=some j∧j < n∧-(n:Int)≤i∧i < n:=by
 unfold ixN at h
 by_cases h0:0≤i
 ·rw [if_pos h0] at h
  by_cases h1:i < n
  ·rw [if_pos h1] at h
   have e:i.toNat=j:=yy h
   exact ⟨by rw [seqIndex_of h0 h1,e],by rw [← e]; exact (Int.toNat_lt h0).mpr h1,sq (Int.neg_nonpos_of_nonneg (y8 n)) h0,h1⟩
  ·rw [if_neg h1] at h; injection h
 ·rw [if_neg h0] at h
  by_cases h1 : -(n:Int)≤i
  ·rw [if_pos h1] at h
   have e:(i+n).toNat=j:=yy h
   exact ⟨by rw [seqIndex_neg (by exact Int.not_le.mp ‹_›) h1,e],by omega,h1,wm (Int.not_le.mp h0) (y8 n)⟩
  ·rw [if_neg h1] at h; injection h
theorem atI_get {α:Type} {xs:List α} {i:Int} {v:α} (h:atI xs i=some v):∃ j,seqIndex? i xs.length=some j∧xs[j]?=some v∧j < xs.length∧-(xs.length:Int)≤i∧i < xs.length:=by
 unfold atI at h
 cases e:ixN xs.length i with
 | none=>rw [e] at h; injection h
 | some j =>
  rw [e] at h
  obtain ⟨h1,h2,h3,h4⟩:=ixN_seq e
  exact ⟨j,h1,h,h2,h3,h4⟩
noncomputable def PlainIx (b:Expr):Prop:=∀ o i,subscripted b false o i=operate [o,i] (getItem o i)
noncomputable def IxR (X:Cx) (r:R2):Prop :=
 ∀ (value slice:Expr) (pins:List (Addr × Obj)) (s:Shared) (σ:St) (H:Hp) (x y:V) (v u:Value) (Q:VK),Inv X pins σ H s→RelV x v→RelV y u→r x y H Q →
  subscripted slice false v u=operate [v,u] (getItem v u)→wpAny (model X.prog X.w) X.A (o0 value slice v u) (EP X pins σ Q) X.xe s
noncomputable def MtR (X:Cx) (id:String) (r:V→List V→Hp→VK→Prop):Prop :=
 ∀ (pins:List (Addr × Obj)) (s:Shared) (σ:St) (H:Hp) (x:V) (xs:List V) (v:Value) (us:List Value) (Q:VK),Inv X pins σ H s→RelV x v→Vals xs us→r x xs H Q →
  wpAny (model X.prog X.w) X.A (call (.builtin id) (v::us)) (EP X pins σ Q) X.xe s
section
variable {X:Cx} {a b:Expr} {ta tb:TE} {pos:Pos}
theorem pe_ix {r:R2} (hr:IxR X r) (ha:PE X a ta) (hb:PE X b tb) (hs:PlainIx b):PE X (.Subscript a b pos) (tOp r ta tb):=by
 intro pins s σ H Q I h
 exact Subscript_ (binT ha hb I h fun v u s2 x y H2 I2 rx ry q=>hr a b pins s2 σ H2 x y v u Q I2 rx ry q (hs _ _))
noncomputable def rIxL (K:ze):R2:=fun x y H Q=>∃ p xs i v,x=.ref p∧y=.int i∧SqL K H p xs∧atI xs i=some v∧Q v H
noncomputable def rIxT (K:ze):R2:=fun x y H Q=>∃ p xs i v,x=.ref p∧y=.int i∧SqT K H p xs∧atI xs i=some v∧Q v H
theorem ix_list:IxR X (rIxL X.K):=by
 intro value slice pins s σ H x y v u Q I rx ry h hs
 refine zz fun P_ k_=>?_
 obtain ⟨p,xs,i,z,rfl,rfl,hq,he,q⟩:=h
 refine k_ ?_
 subst rx
 refine zz fun P_ k_=>?_
 obtain ⟨t,rfl⟩:=ry
 obtain ⟨its,r,pl,hz⟩:=I.list hq
 obtain ⟨j,h1,h2,h3,h4,h5⟩:=atI_get he
 obtain ⟨w,ew,rw'⟩:=r.get h2
 refine k_ ?_
 have hl:=r.length
 have hn:=line63
 have fin:EP X pins σ Q w s:=⟨z,H,I,rw',q⟩
 by_cases h0:0≤i
 ·have hj:i.toNat=j:=by
   rw [seqIndex_of h0 h5] at h1
   exact yy h1
  exact item_listR pl.isList h0 (by omega) (by rw [hj]; simpa using ew) fin hs
 ·have hj:(i+(its.toArray.size:Int)).toNat=j:=by
   rw [seqIndex_neg (by exact Int.not_le.mp ‹_›) h4] at h1
   rw [zn,← hl]
   exact yy h1
  exact subscriptTail_builtinR (x:=w) pl.isList.typeIs slot_list_getitem.lookup
   (wpAny_getItem_list_neg (Q:=fun r s'=>r=w∧EP X pins σ Q r s') pl.isList (by exact Int.not_le.mp ‹_›) (by rw [zn] <;> omega) (by omega) (by rw [hj]; simpa using ew) ⟨rfl,fin⟩) hs
theorem ix_tup:IxR X (rIxT X.K):=by
 intro value slice pins s σ H x y v u Q I rx ry h hs
 obtain ⟨p,xs,i,z,rfl,rfl,hq,he,q⟩:=h
 subst rx
 obtain ⟨t,rfl⟩:=ry
 obtain ⟨its,r,pl,hz⟩:=I.tuple hq
 obtain ⟨j,h1,h2,h3,h4,h5⟩:=atI_get he
 obtain ⟨w,ew,rw'⟩:=r.get h2
 have hl:=r.length
 have hn:=line63
 have fin:EP X pins σ Q w s:=⟨z,H,I,rw',q⟩
 exact subscriptTail_builtinR (x:=w) pl.typeIs slot_tuple_getitem.lookup
  (getItem_tuple (j:=j) (Q:=fun r s'=>r=w∧EP X pins σ Q r s') pl (by omega) (by omega) (by rw [zn,← hl]; exact h1) (by simpa using ew) ⟨rfl,fin⟩) hs
theorem clip_neg (n:Nat) {i:Int} (h:i < 0):max 0 (min (i+n) n)=(((i+n).toNat:Nat):Int):=by
 have e:=oe (Int.le_of_lt h) n
 rw [Int.zero_add] at e
 rw [Int.min_eq_left e,Int.ofNat_toNat,Int.max_comm]
theorem clip_pos (n:Nat) {i:Int} (h:¬ i < 0):max 0 (min i n)=((min i.toNat n:Nat):Int):=by
 obtain ⟨k,rfl⟩:=Int.eq_ofNat_of_zero_le (u9.mp h)
 rw [xq]
 rcases Nat.le_total k n with e | e
 ·rw [vp e,Int.min_eq_left (uz.mpr e)]; exact Int.max_eq_right (y8 _)
 ·rw [ri e,Int.min_eq_right (uz.mpr e)]; exact Int.max_eq_right (y8 _)
theorem slice_bounds (lo hi:Option Int) (n:Nat):(qz lo hi none n).1=((HT.sIx n 0 lo:Nat):Int)∧(qz lo hi none n).2.1=((HT.sIx n n hi:Nat):Int)∧(qz lo hi none n).2.2=1:=by
 refine ⟨?_, ?_,rfl⟩
 ·cases lo with
  | none=>rfl
  | some i =>
   by_cases h:i < 0
   ·simp only [qz,HT.sIx,tt,show (1:Int) > 0 by decide,if_true,h]
    exact clip_neg n h
   ·simp only [qz,HT.sIx,tt,show (1:Int) > 0 by decide,if_true,h,if_false]
    exact clip_pos n h
 ·cases hi with
  | none=>rfl
  | some i =>
   by_cases h:i < 0
   ·simp only [qz,HT.sIx,tt,show (1:Int) > 0 by decide,if_true,h]
    exact clip_neg n h
   ·simp only [qz,HT.sIx,tt,show (1:Int) > 0 by decide,if_true,h,if_false]
    exact clip_pos n h
theorem iV (its:List Value) (lo hi:Option Int):slicePick its.toArray lo hi none=((its.drop (HT.sIx its.length 0 lo)).take (HT.sIx its.length its.length hi - HT.sIx its.length 0 lo)).toArray:=by
 obtain ⟨h1,h2,h3⟩:=slice_bounds lo hi its.toArray.size
 unfold slicePick
 rw [h1,h2,h3]
 simp only [sliceRange_one,pick_run,zn] <;> rfl
noncomputable def rSlL (K:ze):V→Option Int→Option Int→Hp→VK→Prop:=fun x lo hi H Q=>∃ a xs,x=.ref a∧SqL K H a xs∧∀ p,H p=none→Q (.ref p) (upd H p (.lst (cutV xs lo hi)))
theorem sl_list:SlR X (rSlL X.K):=by
 intro pins s σ H x v vl vu lo hi sl Q I rx hs pl pu h
 obtain ⟨a,xs,rfl,hx,q⟩:=h
 subst rx
 obtain ⟨its,r,ht,hz⟩:=I.list hx
 have hlen:=r.length
 refine ⟨"list", _, slot_list_getitem.lookup, ht.isList.typeIs, ?_⟩
 refine wpAny_getItem_list_slice ht.isList hs pl pu .none (by simp) ?_ (by rw [zn] <;> omega)
 rw [iV,← hlen]
 refine ⟨.ref s.heap.objs.size,_,I.laid (t':=s.toks) (o:=.lst (cutV xs lo hi)) (fun b ob q=>zb _ q) (zf _) ?_,rfl,q _ (I.hok.fresh (zf _))⟩
 exact ⟨z5 (cutV_length xs lo hi) hz,_,0,(r.drop (HT.sIx xs.length 0 lo)).take (HT.sIx xs.length xs.length hi - HT.sIx xs.length 0 lo),zy _ rfl⟩
noncomputable def eK:V→Bool
 | .non=>true
 | .bl _=>true
 | .int _=>true
 | .str _=>true
 | _=>false
noncomputable def eqV:V→V→Bool
 | .non,.non=>true
 | .bl a,.bl b=>a == b
 | .bl a,.int b=>(if a then 1 else 0) == b
 | .int a,.bl b=>a == (if b then 1 else 0)
 | .int a,.int b=>a == b
 | .str a,.str b=>a == b
 | _,_=>false
theorem eqAt_V {A:Around} {s:Shared} {y x:V} {u v:Value} (ry:RelV y u) (rx:RelV x v) (fy:eK y=true) (fx:eK x=true):xz A s u v (eqV y x):=by
 cases y with
 | non =>
  subst ry
  cases x with
  | non=>subst rx; exact xz.same _
  | bl b=>subst rx; exact xz.none_bool b
  | int b=>obtain ⟨t,rfl⟩:=rx; exact xz.none_int b t
  | str b=>obtain ⟨t,rfl⟩:=rx; exact xz.none_str b t
  | _=>exact absurd (show false=true from fx) y9
 | bl a =>
  subst ry
  cases x with
  | non=>subst rx; exact xz.bool_none a
  | bl b=>subst rx; exact xz.bool_bool a b
  | int b=>obtain ⟨t,rfl⟩:=rx; exact xz.bool_int a b t
  | str b=>obtain ⟨t,rfl⟩:=rx; exact xz.bool_str a b t
  | _=>exact absurd (show false=true from fx) y9
 | int a =>
  obtain ⟨t',rfl⟩:=ry
  cases x with
  | non=>subst rx; exact xz.int_none a t'
  | bl b=>subst rx; exact xz.int_bool a t' b
  | int b=>obtain ⟨t,rfl⟩:=rx; exact xz.int_int a t' b t
  | str b=>obtain ⟨t,rfl⟩:=rx; exact xz.int_str a t' b t
  | _=>exact absurd (show false=true from fx) y9
 | str a =>
  obtain ⟨t',rfl⟩:=ry
  cases x with
  | non=>subst rx; exact xz.str_none a t'
  | bl b=>subst rx; exact xz.str_bool a t' b
  | int b=>obtain ⟨t,rfl⟩:=rx; exact xz.str_int a t' b t
  | str b=>obtain ⟨t,rfl⟩:=rx; exact xz.str_str a t' b t
  | _=>exact absurd (show false=true from fx) y9
 | _=>exact absurd (show false=true from fy) y9
noncomputable def eqU (x:V) (u:Value):Bool:=match u with
 | .none=>eqV .non x
 | .bool b=>eqV (.bl b) x
 | .int i _=>eqV (.int i) x
 | .str z _=>eqV (.str z) x
 | _=>false
theorem eqU_of {x y:V} {u:Value} (r:RelV y u) (f:eK y=true):eqU x u=eqV y x:=by
 cases y with
 | non=>subst r; rfl
 | bl b=>subst r; rfl
 | int i=>obtain ⟨t,rfl⟩:=r; rfl
 | str z=>obtain ⟨t,rfl⟩:=r; rfl
 | _=>exact absurd (show false=true from f) y9
theorem jN {x:V}:∀ {xs:List V} {us:List Value},Vals xs us→xs.all eK=true→us.any (eqU x)=xs.any fun y=>eqV y x:=by
 intro xs us h
 induction h with
 | nil=>exact fun _=>rfl
 | cons r t ih =>
  intro f
  rw [mi,u0] at f
  rw [vj,vj,eqU_of r f.1,ih f.2]
theorem gi {A:Around} {s:Shared} {x:V} {v:Value} (rx:RelV x v) (fx:eK x=true):∀ {xs:List V} {us:List Value},Vals xs us→xs.all eK=true→∀ u∈us,xz A s u v (eqU x u):=by
 intro xs us h
 induction h with
 | nil=>exact fun _ u hu=>absurd hu xg
 | cons r t ih =>
  intro f u' hu
  rw [mi,u0] at f
  rcases y6.mp hu with rfl | hu
  ·rw [eqU_of r f.1]; exact eqAt_V r rx f.1 fx
  ·exact ih f.2 u' hu
noncomputable def inV (x:V) (xs:List V):Bool:=xs.any fun y=>eqV y x
noncomputable def rIn (K:ze) (neg:Bool):R2:=fun x y H Q=>∃ p xs,y=.ref p∧(SqL K H p xs∨SqT K H p xs)∧eK x=true∧xs.all eK=true∧Q (.bl (if neg then !inV x xs else inV x xs)) H
theorem op_in_seq:OpR X (wg .In) (rIn X.K false):=by
 intro pins s σ H x y v u Q I rx ry h
 obtain ⟨p,xs,rfl,hq,fx,fs,q⟩:=h
 subst ry
 rcases hq with hq | hq
 ·obtain ⟨its,r,pl,hz⟩:=I.list hq
  refine SeqAt.in_listAt (eqU x) pl.isList (fun w hw=>gi rx fx r fs w (by simpa using hw)) ⟨.bl _,H,I,rfl, ?_⟩
  rw [show its.toArray.any (eqU x)=its.any (eqU x) by simp,jN r fs]
  exact q
 ·obtain ⟨its,r,pl,hz⟩:=I.tuple hq
  refine SeqAt.in_tupleAt (eqU x) pl (fun w hw=>gi rx fx r fs w (by simpa using hw)) ⟨.bl _,H,I,rfl, ?_⟩
  rw [show its.toArray.any (eqU x)=its.any (eqU x) by simp,jN r fs]
  exact q
theorem op_notIn_seq:OpR X (wg .NotIn) (rIn X.K true):=by
 intro pins s σ H x y v u Q I rx ry h
 obtain ⟨p,xs,rfl,hq,fx,fs,q⟩:=h
 subst ry
 rcases hq with hq | hq
 ·obtain ⟨its,r,pl,hz⟩:=I.list hq
  refine SeqAt.notIn_listAt (eqU x) pl.isList (fun w hw=>gi rx fx r fs w (by simpa using hw)) ⟨.bl _,H,I,rfl, ?_⟩
  rw [show its.toArray.any (eqU x)=its.any (eqU x) by simp,jN r fs]
  exact q
 ·obtain ⟨its,r,pl,hz⟩:=I.tuple hq
  refine SeqAt.notIn_tupleAt (eqU x) pl (fun w hw=>gi rx fx r fs w (by simpa using hw)) ⟨.bl _,H,I,rfl, ?_⟩
  rw [show its.toArray.any (eqU x)=its.any (eqU x) by simp,jN r fs]
  exact q
theorem fN : CallR X (.builtin "len") (fun xs H Q => ∃ p ys, xs = [.ref p] ∧ (SqL X.K H p ys ∨ SqT X.K H p ys) ∧ Q (.int ys.length) H) := by
 intro pins s σ H xs us Q I r h
 obtain ⟨p,ys,rfl,hq,q⟩:=h
 obtain ⟨u,rfl,rx⟩:=g9 r
 subst rx
 have hn:=line63
 rcases hq with hq | hq
 ·obtain ⟨its,r',pl,hz⟩:=I.list hq
  have hlen:=r'.length
  exact Calls.call_len_list pl.isList (by simp only [zn] <;> omega) ⟨.int ys.length,H,I.tok _,⟨s.toks+1,by rw [zn,hlen]⟩,q⟩
 ·obtain ⟨its,r',pl,hz⟩:=I.tuple hq
  have hlen:=r'.length
  exact len_tuple pl (by simp only [zn] <;> omega) ⟨.int ys.length,H,I.tok _,⟨s.toks+1,by rw [zn,hlen]⟩,q⟩
theorem call_list_of : CallR X (.type "list") (fun xs H Q => ∃ p ys, xs = [.ref p] ∧ (SqL X.K H p ys ∨ SqT X.K H p ys) ∧ ∀ l, H l = none → Q (.ref l) (upd H l (.lst ys))) := by
 intro pins s σ H xs us Q I r h
 obtain ⟨p,ys,rfl,hq,q⟩:=h
 obtain ⟨u,rfl,rx⟩:=g9 r
 subst rx
 have fin:∀ (its:List Value),Vals ys its→ys.length≤y4→∀ (h':Heap) (c':Nat),(∀ b o',s.heap.get? b=some o'→h'.get? b=some o') →
   h'.get? s.heap.objs.size = some { cls := .type "list", dict := none, data := .seq its.toArray c', slots := #[] } → EP X pins σ Q (.ref s.heap.objs.size) { s with heap := h' } := fun its r' hz h' c' kp e =>
  ⟨.ref s.heap.objs.size,_,I.laid (t':=s.toks) kp (zf _) (show bQ X.prog X.w _ h' _ (.lst ys) from ⟨hz,its,c',r',e⟩),rfl,q _ (I.hok.fresh (zf _))⟩
 rcases hq with hq | hq
 ·obtain ⟨its,r',pl,hz⟩:=I.list hq
  have hlen:=r'.length
  obtain ⟨o,ho,hc,n,hd⟩:=pl.isList
  exact call_list_seq p (.inl rfl) ho hc hd (fun h' c' kp e=>fin its r' hz h' c' kp e) (by simp only [zn] <;> omega)
 ·obtain ⟨its,r',pl,hz⟩:=I.tuple hq
  have hlen:=r'.length
  obtain ⟨o,ho,hc,n,hd⟩:=pl
  exact call_list_seq p (.inr rfl) ho hc hd (fun h' c' kp e=>fin its r' hz h' c' kp e) (by simp only [zn] <;> omega)
theorem jF : CallR X (.type "tuple") (fun xs H Q => ∃ p ys, xs = [.ref p] ∧ ((SqL X.K H p ys ∧ ∀ l, H l = none → Q (.ref l) (upd H l (.tup ys))) ∨ (SqT X.K H p ys ∧ Q (.ref p) H))) := by
 intro pins s σ H xs us Q I r h
 obtain ⟨p,ys,rfl,h⟩:=h
 obtain ⟨u,rfl,rx⟩:=g9 r
 subst rx
 rcases h with ⟨hq,q⟩ | ⟨hq,q⟩
 ·obtain ⟨its,r',pl,hz⟩:=I.list hq
  have hlen:=r'.length
  refine call_tuple_list pl.isList (fun h' kp=>?_) (by simp only [zn] <;> omega)
  have I1:Inv X pins σ H { s with heap:=h' }:=I.kept (t':=s.toks) kp
  have I2 : Inv X pins σ (upd H h'.objs.size (.tup ys)) { s with heap := h'.push { cls := .type "tuple", data := .seq its.toArray } } :=
   I1.laid (t':=s.toks) (fun b o e=>zb _ e) (zf _) (show bQ X.prog X.w _ _ _ (.tup ys) from ⟨hz,its,r',IsTup.new _ _⟩)
  exact ⟨.ref h'.objs.size,_,I2,rfl,q _ (I1.hok.fresh (zf _))⟩
 ·obtain ⟨its,r',pl,hz⟩:=I.tuple hq
  exact call_tuple_same pl ⟨.ref p,H,I,rfl,q⟩
noncomputable def tyV (K:ze) (T:String) (x:V) (H:Hp):Prop:=match x with
 | .str _ => T = "str"
 | .int _ => T = "int"
 | .ref p => (T = "list" ∧ ∃ xs, SqL K H p xs) ∨ (T = "tuple" ∧ ∃ o, K.lookup p = some o ∧ o.cls = .type "tuple" ∧ o.dict = none) ∨
   (T = "dict" ∧ ((∃ kvs, H p = some (.dK kvs)) ∨ ∃ kvs, H p = some (.dT kvs))) ∨ (T = "set" ∧ ∃ S n, H p = some (.set S n))
 | _=>False
theorem tyV_is {pins:List (Addr × Obj)} {σ:St} {H:Hp} {s:Shared} {T:String} {x:V} {v:Value} (I:Inv X pins σ H s) (r:RelV x v) (ty:tyV X.K T x H) :
  s.TypeIs v T∧∀ a,v=.ref a→∃ ob,s.heap.get? a=some ob∧ob.dict=none:=by
 cases x with
 | str z =>
  obtain ⟨t,rfl⟩:=r
  cases (show T = "str" from ty)
  exact ⟨typeIs_str s z t,fun _ e=>nomatch e⟩
 | int i =>
  obtain ⟨t,rfl⟩:=r
  cases (show T = "int" from ty)
  exact ⟨typeIs_int s i t,fun _ e=>nomatch e⟩
 | ref p =>
  subst r
  rcases ty with ⟨rfl,xs,hq⟩ | ⟨rfl,o,hk,hc,hd⟩ | ⟨rfl,hk⟩ | ⟨rfl,S,n,hk⟩
  ·obtain ⟨its,_,pl,_⟩:=I.list hq
   refine ⟨pl.isList.typeIs,fun a e=>?_⟩
   (injection e with e; subst e)
   obtain ⟨o,n,e,c,hd,_⟩:=pl
   exact ⟨o,e,hd⟩
  ·refine ⟨⟨o,I.kIn p o hk,hc⟩,fun a e=>?_⟩
   (injection e with e; subst e)
   exact ⟨o,I.kIn _ o hk,hd⟩
  ·have z:∃ o,s.heap.get? p=some o∧o.ExactDict:=by
    rcases hk with ⟨kvs,hk⟩ | ⟨kvs,hk⟩
    ·obtain ⟨_,_,_,_,o,_,_,e,ex,_⟩:=I.hok p _ hk
     exact ⟨o,e,ex⟩
    ·obtain ⟨_,_,_,_,o,_,_,e,ex,_⟩:=I.hok p _ hk
     exact ⟨o,e,ex⟩
   obtain ⟨o,e,ex⟩:=z
   refine ⟨⟨o,e,ex.1⟩,fun a e2=>?_⟩
   (injection e2 with e2; subst e2)
   exact ⟨o,e,ex.2.1⟩
  ·obtain ⟨o,_,_,_,e,ex,_⟩:=I.hok p _ hk
   refine ⟨⟨o,e,ex.1⟩,fun a e2=>?_⟩
   (injection e2 with e2; subst e2)
   exact ⟨o,e,ex.2.1⟩
 | _=>exact ub ty
noncomputable def tBM0 (K:ze) (T:String) (r:V→List V→Hp→VK→Prop) (to:TE):TE:=fun σ H Q=>to σ H fun x H1=>tyV K T x H1∧r x [] H1 Q
noncomputable def tBM (K:ze) (T:String) (r:V→List V→Hp→VK→Prop) (to:TE) (t:TA):TE:=fun σ H Q=>to σ H fun x H1=>tyV K T x H1∧t σ H1 fun xs H2=>r x xs H2 Q
variable {o e:Expr} {es:List Expr} {to:TE} {t:TA} {name:Str} {apos cpos:Pos} {T id:String} {r:V→List V→Hp→VK→Prop}
theorem pe_bm0 (pa : PlainAttrs T) (slot : Slot T name id) (hty : typeOf (.builtin id) = pure (.type "method_descriptor")) (hm : MtR X id r) (ho : PE X o to)
  (hbase:sw o name X.env (eval o X.env)=eval o X.env:=by rfl) (hline:(apos.endLine == cpos.line)=true:=by rfl):PE X (.Call (.Attribute o name apos) [] [] cpos) (tBM0 X.K T r to):=by
 intro pins s σ H Q I h
 refine wpAny_Call_method0_late hbase hline (thn (ho pins s σ H _ I h) fun v s1 hh_=>?_)
 obtain ⟨x,H1,I1,r1,ty,q1⟩:=hh_
 obtain ⟨h1,h2⟩:=tyV_is I1 r1 ty
 exact ⟨T,id,pa,slot,hty,h1,h2,sr rfl (PySem.evalArgs_none (hm pins s1 σ H1 x [] v [] Q I1 r1 .nil q1))⟩
theorem dE (pa : PlainAttrs T) (slot : Slot T name id) (hty : typeOf (.builtin id) = pure (.type "method_descriptor")) (hm : MtR X id r) (ho : PE X o to) (ha : PA X (e :: es) t)
  (hbase:sw o name X.env (eval o X.env)=eval o X.env:=by rfl)
  (hfew:((backTo cpos (zh (e::es) X.env)).all (fun x=>!x.1) && (backToKw cpos (o3 [] X.env)).all (fun x=>x.1.isSome)
   && decide ((e::es).length+([]:List Keyword).length+(if ([]:List Keyword).isEmpty then 0 else 1) < 30))=true:=by rfl)
  (hline:(apos.endLine == cpos.line)=true:=by rfl) (hs:zh (e::es) X.env=(false,eval e X.env)::zh es X.env:=by rfl) (hplain:(backTo cpos (zh es X.env)).any (·.1)=false:=by rfl) :
  PE X (.Call (.Attribute o name apos) (e::es) [] cpos) (tBM X.K T r to t):=by
 intro pins s σ H Q I h
 refine wpAny_Call_method_late hbase hfew hline rfl (thn (ho pins s σ H _ I h) fun v s1 hh_=>?_)
 refine zz fun P_ k_=>?_
 obtain ⟨x,H1,I1,r1,ty,q1⟩:=hh_
 obtain ⟨h1,h2⟩:=tyV_is I1 r1 ty
 refine k_ ?_
 refine ⟨T,id,pa,slot,hty,h1,h2, ?_⟩
 have hA:=ha cpos pins s1 σ H1 _ I1 q1
 rw [hs] at hA ⊢
 refine sr (by show (false || (backTo cpos (zh es X.env)).any (·.1))=false; rw [hplain] <;> rfl) (og ?_)
 refine thn hA fun us s2 hh_=>?_
 refine zz fun P_ k_=>?_
 obtain ⟨vs,H2,I2,r2,q2⟩:=hh_
 refine k_ ?_
 exact hm pins s2 σ H2 x vs v us Q I2 r1 r2 q2
end
end L2
namespace L2
open PySem PySem.Spec PyProof.Rows
noncomputable def MtM (X:Cx) (id:String) (r:V→List V→Hp→VK→Prop):Prop :=
 ∀ (pins:List (Addr × Obj)) (s:Shared) (σ:St) (H:Hp) (x:V) (xs:List V) (v:Value) (us:List Value) (Q:VK),Inv X pins σ H s→RelV x v→Vals xs us→r x xs H Q →
  wpAny (model X.prog X.w) X.A (call (.builtin id) (v::us)) (EP X pins σ Q) X.xe s
theorem Vals.one:∀ {x:V} {us:List Value},Vals [x] us→∃ u,us=[u]∧RelV x u:=by
 intro x us h
 rcases h with _ | ⟨r,h⟩
 cases h
 exact ⟨_,rfl,r⟩
theorem Vals.two:∀ {x y:V} {us:List Value},Vals [x,y] us→∃ u v,us=[u,v]∧RelV x u∧RelV y v:=by
 intro x y us h
 rcases h with _ | ⟨r,h⟩
 rcases h with _ | ⟨q,h⟩
 cases h
 exact ⟨_,_,rfl,r,q⟩
theorem Vals.zero:∀ {us:List Value},Vals [] us→us=[]:=by
 intro us h
 cases h
 rfl
theorem Vals.dropLast {xs:List V} {us:List Value} (h:Vals xs us):Vals xs.dropLast us.dropLast:=by
 induction h with
 | nil=>exact .nil
 | cons r t ih =>
  cases t with
  | nil=>exact .nil
  | cons q t'=>exact .cons r ih
theorem Vals.reverse {xs:List V} {us:List Value} (h:Vals xs us):Vals xs.reverse us.reverse:=by
 induction h with
 | nil=>exact .nil
 | cons r t ih=>rw [pd,pd]; exact Vals.append ih (.cons r .nil)
theorem Vals.rep {xs:List V} {us:List Value} (h:Vals xs us):∀ k:Nat,Vals (yt k xs).flatten (yt k us).flatten:=by
 intro x_0
 induction x_0 with
 | zero =>
  exact .nil
 | succ k ih_ =>
  rw [List.replicate_succ,List.replicate_succ,List.flatten_cons,List.flatten_cons]
  exact Vals.append h (ih_)
theorem erase_last {α:Type} (l:List α):l.eraseIdx (l.length - 1)=l.dropLast:=List.eraseIdx_length_sub_one
section
variable {X:Cx} {pins:List (Addr × Obj)} {σ:St} {H:Hp} {s:Shared} {l b:Addr} {xs ys zs:List V}
theorem Inv.lset {its its':List Value} {n:Nat} {f:Array Value→Array Value} {t':Nat} (I:Inv X pins σ H s) (hH:H l=some (.lst xs))
  (e : s.heap.get? l = some { cls := .type "list", data := .seq its.toArray n }) (hf : f its.toArray = its'.toArray) (hv : Vals ys its') (hz : ys.length ≤ y4) :
  Inv X pins σ (upd H l (.lst ys)) { s with heap:=s.heap.update l (no f),toks:=t' }:=by
 have q:=PySem.IsL.update e f
 rw [hf] at q
 refine I.write (x:=l) (e:=l) (by rw [hH]; exact trivial) (.inl rfl) (fun b' u hb hu=>(ud s.heap (no f) (wt hb)).trans hu) ⟨_,q⟩ ?_
 exact ⟨hz,its',_,hv,q⟩
theorem Inv.lnew {its:List Value} {t':Nat} (I:Inv X pins σ H s) (hv:Vals ys its) (hz:ys.length≤y4) :
  Inv X pins σ (upd H s.heap.objs.size (.lst ys)) { s with heap := s.heap.push { cls := .type "list", data := .seq its.toArray }, toks := t' } :=
 I.laid (fun _ _ q=>zb _ q) (zf _) ⟨hz,its,0,hv,zy _ rfl⟩
theorem Inv.fresh (I:Inv X pins σ H s):H s.heap.objs.size=none:=I.hok.fresh (zf _)
theorem Inv.lstM (I : Inv X pins σ H s) (hH : H l = some (.lst xs)) : xs.length ≤ y4 ∧ ∃ (its : List Value) (n : Nat), Vals xs its ∧ xs.length = its.length ∧ s.heap.get? l = some { cls := .type "list", data := .seq its.toArray n } := by
 obtain ⟨z,its,n,r,e⟩:=I.hok l _ hH
 exact ⟨z,its,n,r,r.length,e⟩
theorem notLongL {n:Nat} (h:n≤y4):wc n=false:=by
 unfold wc
 exact decide_eq_false (by exact t9.mpr ‹_›)
end
section
variable {X:Cx}
noncomputable def rAppend:V→List V→Hp→VK→Prop:=fun x vs H Q=>∃ l xs y,x=.ref l∧vs=[y]∧H l=some (.lst xs)∧xs.length < y4∧Q .non (upd H l (.lst (xs++[y])))
theorem aW : MtM X "list.append" rAppend := by
 intro pins s σ H x vs v us Q I rx rv h
 obtain ⟨l,xs,y,rfl,rfl,hH,hz,q⟩:=h
 subst rx
 obtain ⟨u,rfl,ru⟩:=rv.one
 obtain ⟨z,its,n,r,hl,e⟩:=I.lstM hH
 refine pq F.slot_list_append ⟨_,e,rfl⟩ F.entry_list_append (F.args_list_append_2 _ _) (PySem.list_append l its.toArray n u (by rw [zn]; omega)) ⟨e, ?_⟩
 refine ⟨.non,_,I.lset (its':=its++[u]) hH e (by simp) (r.append (.cons ru .nil)) ?_,rfl,q⟩
 rw [zl,xx]
 assumption
noncomputable def rExtend:V→List V→Hp→VK→Prop:=fun x vs H Q=>∃ l b xs zs,x=.ref l∧vs=[.ref b]∧H l=some (.lst xs)∧H b=some (.lst zs)∧xs.length+zs.length≤y4∧Q .non (upd H l (.lst (xs++zs)))
theorem mt_extend : MtM X "list.extend" rExtend := by
 intro pins s σ H x vs v us Q I rx rv h
 obtain ⟨l,b,xs,zs,rfl,rfl,hH,hB,hz,q⟩:=h
 subst rx
 obtain ⟨u,rfl,ru⟩:=rv.one
 subst ru
 obtain ⟨z,its,n,r,hl,e⟩:=I.lstM hH
 obtain ⟨z2,its2,n2,r2,hl2,e2⟩:=I.lstM hB
 have hsz:its.toArray.size+its2.toArray.size≤y4:=by rw [zn,zn]; omega
 have hlong:¬ (!its.toArray.isEmpty && wc (its.toArray.size+its2.toArray.size))=true:=by
  rw [notLongL hsz,nv]
  exact y9
 refine pq F.slot_list_extend ⟨_,e,rfl⟩ F.entry_list_extend (F.args_list_extend_2 _ _)
  (AutoSeq1.list_extend_list_list_0 l its.toArray n b its2.toArray n2 hlong (by rw [zn]; exact z5 (yc _ _) ‹_›) (by exact we ‹_›)) ⟨e,e2, ?_⟩
 refine ⟨.non,_,I.lset (its':=its++its2) hH e (by simp) (r.append r2) ?_,rfl,q⟩
 rw [zl]
 assumption
noncomputable def rPop:V→List V→Hp→VK→Prop:=fun x vs H Q=>∃ l xs y,x=.ref l∧vs=[]∧H l=some (.lst xs)∧xs[xs.length - 1]?=some y∧Q y (upd H l (.lst xs.dropLast))
theorem mt_pop : MtM X "list.pop" rPop := by
 intro pins s σ H x vs v us Q I rx rv h
 obtain ⟨l,xs,y,rfl,rfl,hH,hy,q⟩:=h
 subst rx
 have hus:=rv.zero
 subst hus
 obtain ⟨z,its,n,r,hl,e⟩:=I.lstM hH
 obtain ⟨u,hu,ru⟩:=r.get hy
 have hy':its.toArray[its.toArray.size - 1]?=some u:=by
  show its.toArray[its.length - 1]?=some u
  rw [← Array.getElem?_toList,← hl]
  exact hu
 refine pq F.slot_list_pop ⟨_,e,rfl⟩ F.entry_list_pop (F.args_list_pop_1 _) (MeetsSeq.list_pop_last l its.toArray n u hy' (by rw [zn]; omega)) ⟨e, ?_⟩
 refine ⟨y,_,I.lset (its':=its.dropLast) hH e ?_ r.dropLast ?_,ru,q⟩
 ·show its.toArray.eraseIdxIfInBounds (its.toArray.size - 1)=its.dropLast.toArray
  rw [zn,List.eraseIdxIfInBounds_toArray,erase_last]
 ·rw [List.length_dropLast]
  omega
noncomputable def rReverse:V→List V→Hp→VK→Prop:=fun x vs H Q=>∃ l xs,x=.ref l∧vs=[]∧H l=some (.lst xs)∧Q .non (upd H l (.lst xs.reverse))
theorem mt_reverse : MtM X "list.reverse" rReverse := by
 intro pins s σ H x vs v us Q I rx rv h
 obtain ⟨l,xs,rfl,rfl,hH,q⟩:=h
 subst rx
 have hus:=rv.zero
 subst hus
 obtain ⟨z,its,n,r,hl,e⟩:=I.lstM hH
 refine pq F.slot_list_reverse ⟨_,e,rfl⟩ F.entry_list_reverse (F.args_list_reverse_1 _) (AutoSeq1.list_reverse_list_0 l its.toArray n (by rw [zn]; omega)) ⟨e, ?_⟩
 refine ⟨.non,_,I.lset (its':=its.reverse) hH e (by simp) r.reverse ?_,rfl,q⟩
 rw [xl]
 assumption
noncomputable def rClear:V→List V→Hp→VK→Prop:=fun x vs H Q=>∃ l xs,x=.ref l∧vs=[]∧H l=some (.lst xs)∧Q .non (upd H l (.lst []))
theorem mt_clear : MtM X "list.clear" rClear := by
 intro pins s σ H x vs v us Q I rx rv h
 obtain ⟨l,xs,rfl,rfl,hH,q⟩:=h
 subst rx
 have hus:=rv.zero
 subst hus
 obtain ⟨z,its,n,r,hl,e⟩:=I.lstM hH
 refine pq F.slot_list_clear ⟨_,e,rfl⟩ F.entry_list_clear (F.args_list_clear_1 _) (AutoSeq1.list_clear_list_0 l its.toArray n (by rw [zn]; omega)) ⟨e, ?_⟩
 exact ⟨.non,_,I.lset (its':=[]) (ys:=[]) hH e rfl .nil (xc _),rfl,q⟩
end
section
variable {prog:yp} {w:World} {A:Around} {E:Value→Shared→Prop} {s:Shared}
end
section
variable {X:Cx}
end
end L2
namespace L2
open PySem PySem.Spec PyProof.Rows
section
variable {κ:Type} [DecidableEq κ]
noncomputable def valV (kvs:List (κ × V)) (k:κ):Option V:=(kvs.find? fun kv=>decide (kv.1=k)).map (·.2)
noncomputable def putK (kvs:List (κ × V)) (k:κ) (v:V):List (κ × V) :=
 if (kvs.any fun kv=>decide (kv.1=k))=true then kvs.map (fun kv=>if kv.1=k then (kv.1,v) else kv) else kvs++[(k,v)]
theorem gb {p:κ × V} {r:List (κ × V)} {k:κ} (e:p.1=k):valV (p::r) k=some p.2:=by simp [valV,vc,e]
theorem gc {p:κ × V} {r:List (κ × V)} {k:κ} (e:¬ p.1=k):valV (p::r) k=valV r k:=by simp [valV,vc,e]
theorem valV_any (k:κ):∀ kvs:List (κ × V),(kvs.any fun kv=>decide (kv.1=k))=(valV kvs k).isSome:=by
 intro x_0
 induction x_0 with
 | nil =>
  exact rfl
 | cons p r ih_ =>
  rw [vj]
  by_cases e:p.1=k
  ·simp only [gb e,decide_eq_true e,Bool.true_or,Option.isSome_some]
  ·rw [gc e,decide_eq_false e,Bool.false_or]; exact ih_
theorem eJ (kvs:List (κ × V)) (k:κ) (v:V):(putK kvs k v).length≤kvs.length+1:=by
 unfold putK
 split
 ·rw [z7]; exact yc _ _
 ·rw [zl,yx,List.length_nil]; exact zf _
theorem RelO.isSome_eq {o:Option V} {u:Option Value} (r:RelO o u):o.isSome=u.isSome:=by
 cases o with
 | none=>cases u with
  | none=>rfl
  | some _=>exact (show False from r).elim
 | some _=>cases u with
  | none=>exact (show False from r).elim
  | some _=>rfl
theorem RelO.getD {o:Option V} {u:Option Value} {d:V} {d':Value} (r:RelO o u) (rd:RelV d d'):RelV (o.getD d) (u.getD d'):=by
 cases o with
 | none=>cases u with
  | none=>exact rd
  | some _=>exact (show False from r).elim
 | some _=>cases u with
  | none=>exact (show False from r).elim
  | some _=>exact r
theorem KV.val {kvs:List (κ × V)} {vs:List (κ × Value)} (r:KV kvs vs) (k:κ):RelO (valV kvs k) (valueAt vs k):=by
 unfold KV at r
 induction r with
 | nil=>exact xm
 | @cons p q ps qs h t ih =>
  obtain ⟨h1,h2⟩:=h
  by_cases e:p.1=k
  ·have e':q.1=k:=h1.symm.trans e
   have b:valueAt (q::qs) k=some q.2:=by simp [valueAt,vc,e']
   rw [gb e,b]; exact h2
  ·have e':¬ q.1=k:=fun z=>e (h1.trans z)
   have b:valueAt (q::qs) k=valueAt qs k:=by simp [valueAt,vc,e']
   rw [gc e,b]; exact ih
theorem KV.any {kvs:List (κ × V)} {vs:List (κ × Value)} (r:KV kvs vs) (k:κ):(kvs.any fun kv=>decide (kv.1=k))=vs.any fun kv=>decide (kv.1=k):=by
 unfold KV at r
 induction r with
 | nil=>rfl
 | cons h t ih=>rw [vj,vj,ih,h.1]
theorem KV.repl {kvs:List (κ × V)} {vs:List (κ × Value)} (r:KV kvs vs) (k:κ) {y:V} {u:Value} (ry:RelV y u) :
  KV (kvs.map fun kv=>if kv.1=k then (kv.1,y) else kv) (vs.map fun kv=>if kv.1=k then (kv.1,u) else kv):=by
 unfold KV at r ⊢
 induction r with
 | nil=>exact .nil
 | @cons p q ps qs h t ih =>
  rw [zc,zc]
  refine .cons ?_ ih
  obtain ⟨h1,h2⟩:=h
  by_cases e:p.1=k
  ·rw [if_pos e,if_pos (h1.symm.trans e)]; exact ⟨h1,ry⟩
  ·rw [if_neg e,if_neg (fun z=>e (h1.trans z))]; exact ⟨h1,h2⟩
theorem KV.put {kvs:List (κ × V)} {vs:List (κ × Value)} (r:KV kvs vs) (k:κ) {y:V} {u:Value} (ry:RelV y u):KV (putK kvs k y) (stored vs k u):=by
 unfold putK stored
 rw [r.any k]
 by_cases e:(vs.any fun kv=>decide (kv.1=k))=true
 ·rw [if_pos e,if_pos e]; exact r.repl k ry
 ·rw [if_neg e,if_neg e]; exact Paired.snoc r ⟨rfl,ry⟩
theorem KV.keys {kvs:List (κ × V)} {vs:List (κ × Value)} (r:KV kvs vs):kvs.map (·.1)=vs.map (·.1):=by
 unfold KV at r
 induction r with
 | nil=>rfl
 | cons h t ih=>rw [zc,zc,ih,h.1]
theorem KV.length {kvs:List (κ × V)} {vs:List (κ × Value)} (r:KV kvs vs):kvs.length=vs.length:=mh r
end
theorem kV_is {P:yp} {w:World} {k:Key} {u:Value} (r:RelV (kV k) u):(bf P w).is k u=true:=by
 cases k with
 | inl i=>obtain ⟨t,e⟩:=(show ∃ t,u=nc i t from r); subst e; exact mixKind_int P w i t
 | inr x=>obtain ⟨t,e⟩:=(show ∃ t,u=Value.str x t from r); subst e; exact mixKind_str P w x t
theorem items_are {P:yp} {w:World}:∀ {ks:List Key} {us:List Value},Vals (ks.map kV) us→ItemsAre (bf P w) ks us:=by
 intro x_0
 induction x_0 with
 | nil =>
  intro _ r
  rw [List.map_nil] at r; cases r; exact .nil
 | cons k ks ih_ =>
  intro _ r
  rw [zc] at r
  cases r with
  | cons h t=>exact .cons (kV_is h) (ih_ t)
noncomputable abbrev KT (H:Hp):List (List Key × V)→List (List Key × Addr × Value)→Prop:=Paired fun p q=>p.1=q.1∧H q.2.1=some (.tup (p.1.map kV))∧RelV p.2 q.2.2
theorem KT.val {H:Hp} {kvs:List (List Key × V)} {xs:List (List Key × Addr × Value)} (r:KT H kvs xs) (k:List Key):RelO (valV kvs k) ((atKey xs k).map (·.2)):=by
 induction r with
 | nil=>exact xm
 | @cons p q ps qs h t ih =>
  obtain ⟨h1,_,h2⟩:=h
  by_cases e:p.1=k
  ·have e':q.1=k:=h1.symm.trans e
   have b:atKey (q::qs) k=some q.2:=by simp [atKey,vc,e']
   rw [gb e,b]; exact h2
  ·have e':¬ q.1=k:=fun z=>e (h1.trans z)
   have b:atKey (q::qs) k=atKey qs k:=by simp [atKey,vc,e']
   rw [gc e,b]; exact ih
theorem KT.repl {H:Hp} {kvs:List (List Key × V)} {xs:List (List Key × Addr × Value)} (r:KT H kvs xs) (k:List Key) {y:V} {u:Value} (ry:RelV y u) :
  KT H (kvs.map fun kv=>if kv.1=k then (kv.1,y) else kv) (xs.map (putAt k u)):=by
 induction r with
 | nil=>exact .nil
 | @cons p q ps qs h t ih =>
  rw [zc,zc]
  refine .cons ?_ ih
  obtain ⟨h1,h2,h3⟩:=h
  unfold putAt
  by_cases e:p.1=k
  ·rw [if_pos e,if_pos (h1.symm.trans e)]; exact ⟨h1,h2,ry⟩
  ·rw [if_neg e,if_neg (fun z=>e (h1.trans z))]; exact ⟨h1,h2,h3⟩
theorem KT.put {H:Hp} {kvs:List (List Key × V)} {xs:List (List Key × Addr × Value)} (r:KT H kvs xs) (k:List Key) {b:Addr} {y:V} {u:Value} (hb:H b=some (.tup (k.map kV))) (ry:RelV y u) :
  KT H (putK kvs k y) (storedH xs k b u):=by
 have e:(kvs.any fun kv=>decide (kv.1=k))=(atKey xs k).isSome:=by
  rw [valV_any,(r.val k).isSome_eq,m8]
 unfold putK storedH
 rw [e]
 by_cases q:(atKey xs k).isSome=true
 ·rw [if_pos q,if_pos q]; exact r.repl k ry
 ·rw [if_neg q,if_neg q]; exact Paired.snoc r ⟨rfl,hb,ry⟩
theorem KT.keeps {H H':Hp} {kvs:List (List Key × V)} {xs:List (List Key × Addr × Value)} (r:KT H kvs xs) (ht:∀ b ys,H b=some (.tup ys)→H' b=some (.tup ys)):KT H' kvs xs :=
 Paired.mapP r fun _ _ z=>⟨z.1,ht _ _ z.2.1,z.2.2⟩
section
variable {P:yp} {w:World} {H:Hp} {h:Heap} {a:Addr}
theorem rd_of {u:HO} (ok:HOk P w H h) (e:Rd H a u):bQ P w H h a u:=e.ok ok
theorem hJ {kvs:List (Key × V)} (ok:HOk P w H h) (e:Rd H a (.dK kvs)):ODic P w h a kvs :=
 show bQ P w H h a (.dK kvs) from rd_of ok e
theorem dk_of {kvs:List (Key × V)} (ok:HOk P w H h) (e:H a=some (.dK kvs)):ODic P w h a kvs:=hJ ok (.inl e)
theorem gN {ks:List Key} (ok:HOk P w H h) (e:H a=some (.tup (ks.map kV))):(na (bf P w)).is h ks a:=by
 obtain ⟨_,its,r,o,h1,h2,n,h3⟩:=(show bQ P w H h a (.tup (ks.map kV)) from ok a _ e)
 exact ⟨o,its.toArray,n,h1,h2,h3,by simpa using items_are r⟩
theorem dt_rd {kvs:List (List Key × V)} (ok:HOk P w H h) (e:Rd H a (.dT kvs)):kvs.length≤y4∧(a == re)=false ∧
  ∃ xs,KT H kvs xs∧h.DictOfH (na (bf P w)) a xs:=by
 refine zz fun P_ k_=>?_
 obtain ⟨z,y,xs,r,o,es,ep,h1,h2,h3,h4,h5⟩:=(show bQ P w H h a (.dT kvs) from rd_of ok e)
 refine k_ ?_
 refine ⟨z,y,xs,r,o,es,ep,h1,h2,h3,h4,fun x hx=>?_,h5⟩
 have all:∀ {l:List (List Key × V)} {m:List (List Key × Addr × Value)},KT H l m→∀ x∈m,(na (bf P w)).is h x.1 x.2.1:=by
  intro l m q
  induction q with
  | nil=>intro x hx; exact nomatch hx
  | @cons p q ps qs hq t ih =>
   intro x hx
   rcases y6.mp hx with e | hx
   ·subst e
    exact gN ok (by rw [← hq.1]; exact hq.2.1)
   ·exact ih x hx
 exact all r x hx
theorem dt_of {kvs:List (List Key × V)} (ok:HOk P w H h) (e:H a=some (.dT kvs)):kvs.length≤y4∧(a == re)=false ∧
  ∃ xs,KT H kvs xs∧h.DictOfH (na (bf P w)) a xs:=dt_rd ok (.inl e)
end
noncomputable def DGet (H:Hp) (a:Addr) (y:V) (r:Option V):Prop :=
 (∃ kvs k,Rd H a (.dK kvs)∧y=kV k∧r=valV kvs k)∨∃ kvs k b,Rd H a (.dT kvs)∧y=.ref b∧H b=some (.tup (k.map kV))∧r=valV kvs k
noncomputable def DPut (H:Hp) (a:Addr) (y v:V) (H':Hp):Prop :=
 (∃ kvs k,H a=some (.dK kvs)∧y=kV k∧kvs.length < y4∧H'=upd H a (.dK (putK kvs k v))) ∨
 ∃ kvs k b,H a=some (.dT kvs)∧y=.ref b∧H b=some (.tup (k.map kV))∧kvs.length < y4∧H'=upd H a (.dT (putK kvs k v))
theorem DGet.t {H:Hp} {a b:Addr} {kvs:List (List Key × V)} {k:List Key} (e:H a=some (.dT kvs)) (eb:H b=some (.tup (k.map kV))):DGet H a (.ref b) (valV kvs k):=.inr ⟨kvs,k,b,.inl e,rfl,eb,rfl⟩
theorem DPut.k {H:Hp} {a:Addr} {kvs:List (Key × V)} {k:Key} {v:V} (e:H a=some (.dK kvs)) (hl:kvs.length < y4):DPut H a (kV k) v (upd H a (.dK (putK kvs k v))):=.inl ⟨kvs,k,e,rfl,hl,rfl⟩
theorem DPut.t {H:Hp} {a b:Addr} {kvs:List (List Key × V)} {k:List Key} {v:V} (e:H a=some (.dT kvs)) (eb:H b=some (.tup (k.map kV))) (hl:kvs.length < y4) :
  DPut H a (.ref b) v (upd H a (.dT (putK kvs k v))):=.inr ⟨kvs,k,b,e,rfl,eb,hl,rfl⟩
section
variable {X:Cx} {pins:List (Addr × Obj)} {σ:St} {H:Hp} {s:Shared} {a:Addr} {y v:V} {u r:Value} {o:Option V} {A:Around} {E:Value→Shared→Prop}
theorem Inv.big (I:Inv X pins σ H s):re < s.heap.objs.size:=by
 have h:y7 < s.heap.objs.size:=(I.mod.glob.keeps I.bk).lt
 exact vb (by decide) h
theorem d_getItem {Q:Value→Shared→Prop} (hu:A.units+1 < cLine) (I:Inv X pins σ H s) (g:DGet H a y (some v)) (ry:RelV y u) (h:∀ w' s',Inv X pins σ H s'→RelV v w'→Q w' s') :
  wpAny (model X.prog X.w) A (getItem (.ref a) u) Q E s:=by
 rcases g with ⟨kvs,k,e,ey,l⟩ | ⟨kvs,k,b,e,ey,eb,l⟩
 ·subst ey
  refine zz fun P_ k_=>?_
  obtain ⟨z,hd,vs,rel,dd⟩:=hJ I.hok e
  obtain ⟨w',hw,rw'⟩:=RelO.some_of (v:=v) (o:=valueAt vs k) (by rw [l]; exact rel.val k)
  refine k_ ?_
  exact wpAny_getItem_of (kV_is ry) dd.mapOf hw (h w' _ (I.tok _) rw')
 ·subst ey
  cases (show u=x9 b from ry)
  refine zz fun P_ k_=>?_
  obtain ⟨z,hd,xs,rel,dd⟩:=dt_rd I.hok e
  obtain ⟨w',hw,rw'⟩:=RelO.some_of (v:=v) (o:=(atKey xs k).map (·.2)) (by rw [l]; exact rel.val k)
  obtain ⟨p,hp,hp2⟩:=Option.map_eq_some_iff.mp hw
  refine k_ ?_
  refine wpAny_getItem_heap (uk hu) (gN I.hok eb) dd hp ?_
  rw [hp2]
  exact h w' _ (I.tok _) rw'
theorem d_in {Q:Value→Shared→Prop} (hu:A.units+1 < cLine) (I:Inv X pins σ H s) (g:DGet H a y o) (ry:RelV y u) (h:∀ s',Inv X pins σ H s'→Q (.bool o.isSome) s') :
  wpAny (model X.prog X.w) A (wg .In u (.ref a)) Q E s:=by
 rcases g with ⟨kvs,k,e,ey,l⟩ | ⟨kvs,k,b,e,ey,eb,l⟩
 ·subst ey
  obtain ⟨z,hd,vs,rel,dd⟩:=hJ I.hok e
  refine wpAny_in_of (kV_is ry) hd dd.mapOf ?_
  rw [← (rel.val k).isSome_eq,← l]
  exact h _ (I.tok _)
 ·subst ey
  cases (show u=x9 b from ry)
  obtain ⟨z,hd,xs,rel,dd⟩:=dt_rd I.hok e
  refine wpAny_in_heap (uk hu) (gN I.hok eb) hd dd ?_
  have q:=(rel.val k).isSome_eq
  rw [m8] at q
  rw [← q,← l]
  exact h _ (I.tok _)
theorem d_notIn {Q:Value→Shared→Prop} (hu:A.units+1 < cLine) (I:Inv X pins σ H s) (g:DGet H a y o) (ry:RelV y u) (h:∀ s',Inv X pins σ H s'→Q (.bool (!o.isSome)) s') :
  wpAny (model X.prog X.w) A (wg .NotIn u (.ref a)) Q E s:=by
 rcases g with ⟨kvs,k,e,ey,l⟩ | ⟨kvs,k,b,e,ey,eb,l⟩
 ·subst ey
  obtain ⟨z,hd,vs,rel,dd⟩:=hJ I.hok e
  refine wpAny_notIn_of (kV_is ry) hd dd.mapOf ?_
  rw [← (rel.val k).isSome_eq,← l]
  exact h _ (I.tok _)
 ·subst ey
  cases (show u=x9 b from ry)
  obtain ⟨z,hd,xs,rel,dd⟩:=dt_rd I.hok e
  refine wpAny_notIn_heap (uk hu) (gN I.hok eb) hd dd ?_
  have q:=(rel.val k).isSome_eq
  rw [m8] at q
  rw [← q,← l]
  exact h _ (I.tok _)
theorem d_write {h':Heap} {t':Nat} {ob:HO} (I:Inv X pins σ H s) (mu:Mut (H a)) (hs:t3 a s.heap h') (he:∃ q,h'.get? a=some q) (new:bQ X.prog X.w (upd H a ob) h' a ob) :
  Inv X pins σ (upd H a ob) { s with heap:=h',toks:=t' } :=
 I.write (x:=a) (e:=a) mu (.inl rfl) (fun b q hb z=>(hs.2 b hb).trans z) he new
theorem dk_new {P:yp} {w:World} {H':Hp} {h':Heap} {kvs:List (Key × V)} {vs:List (Key × Value)} (z:kvs.length≤y4) (hd:(a == re)=false) (rel:KV kvs vs) (dd:h'.DictOf (bf P w) a vs) :
  bQ P w H' h' a (.dK kvs):=⟨z,hd,vs,rel,dd⟩
theorem d_setItem {H':Hp} {Q:Unit→Shared→Prop} (hu:A.units+1 < cLine) (I:Inv X pins σ H s) (g:DPut H a y v H') (ry:RelV y u) (rv:RelV v r) (h:∀ s',Inv X pins σ H' s'→Q () s') :
  wpAny (model X.prog X.w) A (setItem (.ref a) u r) Q E s:=by
 rcases g with ⟨kvs,k,e,ey,l,eH⟩ | ⟨kvs,k,b,e,ey,eb,l,eH⟩
 ·subst ey eH
  refine zz fun P_ k_=>?_
  obtain ⟨z,hd,vs,rel,dd⟩:=dk_of I.hok e
  refine k_ ?_
  have hz:vs.length≤y4:=by rw [← rel.length]; exact z
  have hl:(putK kvs k v).length≤y4:=by have:=eJ kvs k v; exact z5 ‹_› ‹_›
  refine wpAny_setItem_pairs (hsz:=hz) (kV_is ry) dd fun h' dd' hs=>h _ ?_
  have he:∃ q,h'.get? a=some q:=let ⟨q,_,_,hq,_⟩:=dd'; ⟨q,hq⟩
  exact d_write I (by rw [e]; exact xm) hs he (dk_new hl hd (rel.put k rv) dd')
 ·subst ey eH
  cases (show u=x9 b from ry)
  refine zz fun P_ k_=>?_
  obtain ⟨z,hd,xs,rel,dd⟩:=dt_of I.hok e
  refine k_ ?_
  have hz:xs.length≤y4:=by rw [← mh rel]; exact z
  have hl:(putK kvs k v).length≤y4:=by have:=eJ kvs k v; exact z5 ‹_› ‹_›
  refine wpAny_setItem_heap (hsz:=hz) (uk hu) (gN I.hok eb) dd fun h' dd' hs=>h _ ?_
  refine zz fun P_ k_=>?_
  obtain ⟨q,es,ep,hq,h2,h3,h4,_,h5⟩:=dd'
  refine k_ ?_
  refine d_write I (by rw [e]; exact xm) hs ⟨q,hq⟩ ⟨hl,hd,_,(rel.put k eb rv).keeps fun c ys ec=>?_,q,es,ep,hq,h2,h3,h4,h5⟩
  rw [ah (ne_of ec e (fun z=>nomatch z))]
  exact ec
end
section
variable {X:Cx} {pins:List (Addr × Obj)} {σ:St} {H:Hp} {s:Shared} {a:Addr} {kvs:List (Key × V)} {k:Key} {u:Value} {A:Around} {E:Value→Shared→Prop}
theorem d_len {Q : Value → Shared → Prop} (I : Inv X pins σ H s) (e : Rd H a (.dK kvs)) (h : ∀ t s', Inv X pins σ H s' → Q (.int kvs.length t) s') : wpAny (model X.prog X.w) A (call (.builtin "len") [.ref a]) Q E s := by
 obtain ⟨z,hd,vs,rel,dd⟩:=hJ I.hok e
 refine call_len_dict hd dd (by rw [← rel.length]; rw [sg] at z; omega) ?_
 rw [← rel.length]
 exact h _ _ (I.tok _)
end
noncomputable def NoSl (i:Expr):Prop:=∀ ov iv,subscripted i false ov iv=operate [ov,iv] (getItem ov iv)
theorem subD_of {prog:yp} {w:World} {A:Around} {E:Value→Shared→Prop} {s:Shared} {env:Env} {value slice:Expr} {pos:Pos} {T id:String} {Q:Value→Shared→Prop}
  (hl : pp (.type T) "__getitem__" = pure (some (.builtin id))) (hs : NoSl slice)
  (h:wpAny (model prog w) A (eval value env) (fun o s₁=>wpAny (model prog w) A (eval slice env) (fun i s₂=>s₂.TypeIs o T∧wpAny (model prog w) A (getItem o i) Q E s₂) E s₁) E s) :
  wpAny (model prog w) A (eval (.Subscript value slice pos) env) Q E s:=by
 refine Subscript_ (wu h (fun o s₁ h₁=>wu h₁ (fun i s₂ h₂=>?_) fun _ _ x=>x) fun _ _ x=>x)
 obtain ⟨hT,h₂⟩:=h₂
 unfold o0
 refine z6 ?_
 rw [getitemInPython_of_ne hT.not_modules]
 refine z6 (u7 hT hl ?_)
 have fin:wpAny (model prog w) A (subscripted slice false o i) (fun r s₃=>wpAny (model prog w) A (letTemporaryGo value o r >>= fun _=>pure r) Q E s₃) E s₂:=by
  rw [hs o i]
  exact wpAny_operating (wu h₂ (fun r s₃ h₃=>z6 (wpAny_letTemporaryGo (zr h₃))) fun _ _ x=>x)
 first
  | exact zr (z6 fin)
  | exact z6 (zr (z6 fin))
  | exact z6 fin
theorem dict_typeIs {X : Cx} {pins : List (Addr × Obj)} {σ : St} {H : Hp} {s : Shared} {a : Addr} {y : V} {o : Option V} (I : Inv X pins σ H s) (g : DGet H a y o) : s.TypeIs (.ref a) "dict" := by
 rcases g with ⟨kvs,k,e,_,_⟩ | ⟨kvs,k,b,e,_,_,_⟩
 ·obtain ⟨_,_,vs,_,dd⟩:=hJ I.hok e
  exact dd.typeIs
 ·obtain ⟨_,_,xs,_,dd⟩:=dt_rd I.hok e
  exact dd.typeIs
noncomputable def tDGet (td ty:TE):TE:=fun σ H Q=>td σ H fun x H1=>ty σ H1 fun y H2=>∃ a v,x=.ref a∧DGet H2 a y (some v)∧Q v H2
noncomputable def sDPut (td ty tv:TE):TS:=fun D σ H=>tv σ H fun v H1=>td σ H1 fun x H2=>ty σ H2 fun y H3=>∃ a H4,x=.ref a∧DPut H3 a y v H4∧D.nx σ H4
section
variable {X:Cx} {o i e value:Expr} {pos pos' tpos:Pos} {td ty tv:TE}
theorem pe_dget (hu:X.A.units+1 < cLine) (ho:PE X o td) (hi:PE X i ty) (hs:NoSl i):PE X (.Subscript o i pos) (tDGet td ty):=by
 intro pins s σ H Q I h
 refine subD_of PySem.F.slot_dict_getitem.lookup hs (thn (ho pins s σ H _ I h) fun u s1 hh_=>?_)
 obtain ⟨x,H1,I1,rx,q1⟩:=hh_
 refine thn (hi pins s1 σ H1 _ I1 q1) fun iv s2 hh_=>?_
 obtain ⟨y,H2,I2,ry,a,v,ex,g,q2⟩:=hh_
 subst ex
 obtain rfl:u=x9 a:=rx
 exact ⟨dict_typeIs I2 g,d_getItem hu I2 g ry fun w' s3 I3 rw'=>⟨v,H2,I3,rw',q2⟩⟩
theorem ps_dput (hu:X.A.units+1 < cLine) (ho:PE X o td) (hi:PE X i ty) (hv:PE X value tv) (hs:ug value (some (.Subscript o i pos')) pos.line X.env=pure false) :
  PS X (.Assign [.Subscript o i pos'] value pos) (sDPut td ty tv):=by
 intro pins s σ H D I h
 refine wpAny_Assign_Subscript (thn (hv pins s σ H _ I h) fun r s1 hh_=>?_) hs
 obtain ⟨v,H1,I1,rv,q1⟩:=hh_
 refine thn (ho pins s1 σ H1 _ I1 q1) fun u s2 hh_=>?_
 obtain ⟨x,H2,I2,rx,q2⟩:=hh_
 refine thn (hi pins s2 σ H2 _ I2 q2) fun iv s3 hh_=>?_
 obtain ⟨y,H3,I3,ry,a,H4,ex,g,q3⟩:=hh_
 subst ex
 obtain rfl:u=x9 a:=rx
 exact d_setItem hu I3 g ry rv fun s4 I4=>⟨σ,H4,I4,q3⟩
end
theorem dk_empty {P : yp} {w : World} {H : Hp} (h : Heap) (hb : re < h.objs.size) : bQ P w H (h.push { cls := .type "dict", data := .dict #[] }) h.objs.size (.dK []) :=
 ⟨xc _,beq_eq_false_iff_ne.mpr (wt (yh hb)),[],.nil,Heap.DictOf.new h⟩
theorem dt_empty {P : yp} {w : World} {H : Hp} (h : Heap) (hb : re < h.objs.size) : bQ P w H (h.push { cls := .type "dict", data := .dict #[] }) h.objs.size (.dT []) :=
 ⟨xc _,beq_eq_false_iff_ne.mpr (wt (yh hb)),[],.nil,_,#[],0,zy _ rfl,⟨rfl,rfl,rfl⟩,rfl,rfl,vm⟩
noncomputable def tDNewK:TE:=fun _ H Q=>∀ p,H p=none→Q (.ref p) (upd H p (.dK []))
noncomputable def tDNewT:TE:=fun _ H Q=>∀ p,H p=none→Q (.ref p) (upd H p (.dT []))
section
variable {X:Cx} {pos:Pos}
theorem pe_dnewK:PE X (.Dict [] [] pos) tDNewK:=fun pins s σ H Q I h =>
 wpAny_Dict_empty ⟨.ref s.heap.objs.size,_,I.laid (a:=s.heap.objs.size) (o:=.dK []) (t':=s.toks) (fun _ _ q=>zb _ q) (zf _) (dk_empty s.heap I.big),rfl,h _ (I.hok.fresh (zf _))⟩
theorem pe_dnewT:PE X (.Dict [] [] pos) tDNewT:=fun pins s σ H Q I h =>
 wpAny_Dict_empty ⟨.ref s.heap.objs.size,_,I.laid (a:=s.heap.objs.size) (o:=.dT []) (t':=s.toks) (fun _ _ q=>zb _ q) (zf _) (dt_empty s.heap I.big),rfl,h _ (I.hok.fresh (zf _))⟩
end
noncomputable def eE (kvs more:List (Key × V)):List (Key × V):=more.foldl (fun acc kv=>putK acc kv.1 kv.2) kvs
theorem KV.merge:∀ {more:List (Key × V)} {rs:List (Key × Value)} {kvs:List (Key × V)} {vs:List (Key × Value)},KV more rs→KV kvs vs→KV (eE kvs more) (merged vs rs):=by
 intro more rs kvs vs r
 unfold KV at r
 induction r generalizing kvs vs with
 | nil=>intro q; exact q
 | @cons p q ps qs h t ih =>
  intro r0
  have e:KV (putK kvs p.1 p.2) (stored vs q.1 q.2):=by
   have:=r0.put p.1 h.2
   rw [← h.1]; exact this
  exact ih e
theorem jg:∀ (more kvs:List (Key × V)),(eE kvs more).length≤kvs.length+more.length:=by
 intro x_0
 induction x_0 with
 | nil =>
  intro kvs
  show kvs.length≤kvs.length+0; exact zf _
 | cons p r ih_ =>
  intro kvs
  have h1:=ih_ (putK kvs p.1 p.2)
  have h2:=eJ kvs p.1 p.2
  show (eE (putK kvs p.1 p.2) r).length≤_
  rw [yx]; omega
structure M1 (X:Cx) (o:Expr) (m:Str) (apos:Pos) (e:Expr) (cpos:Pos):Prop where
 base:sw o m X.env (eval o X.env)=eval o X.env
 few:((backTo cpos (zh [e] X.env)).all (fun x=>!x.1) && (backToKw cpos (o3 [] X.env)).all (fun x=>x.1.isSome)
  && decide (([e]:List Expr).length+([]:List Keyword).length+(if ([]:List Keyword).isEmpty then 0 else 1) < 30))=true
 line:(apos.endLine == cpos.line)=true
 trees:backTo cpos (zh [e] X.env)=[(false,eval e X.env)]
structure M2 (X:Cx) (o:Expr) (m:Str) (apos:Pos) (e f:Expr) (cpos:Pos):Prop where
 base:sw o m X.env (eval o X.env)=eval o X.env
 few:((backTo cpos (zh [e,f] X.env)).all (fun x=>!x.1) && (backToKw cpos (o3 [] X.env)).all (fun x=>x.1.isSome)
  && decide (([e,f]:List Expr).length+([]:List Keyword).length+(if ([]:List Keyword).isEmpty then 0 else 1) < 30))=true
 line:(apos.endLine == cpos.line)=true
 trees:backTo cpos (zh [e,f] X.env)=[(false,eval e X.env),(false,eval f X.env)]
noncomputable def IsD (H:Hp) (a:Addr):Prop:=(∃ kvs,Rd H a (.dK kvs))∨∃ kvs,Rd H a (.dT kvs)
theorem isD_at {X:Cx} {pins:List (Addr × Obj)} {σ:St} {H:Hp} {s:Shared} {a:Addr} (I:Inv X pins σ H s) (d:IsD H a) :
  s.TypeIs (.ref a) "dict" ∧ (∀ b, x9 a = .ref b → ∃ ob, s.heap.get? b = some ob ∧ ob.dict = none) ∧ (a == re) = false := by
 rcases d with ⟨kvs,e⟩ | ⟨kvs,e⟩
 ·obtain ⟨_,hd,vs,_,dd⟩:=hJ I.hok e
  refine ⟨dd.typeIs,fun b q=>?_,hd⟩
  (injection q with q; subst q)
  obtain ⟨ob,_,_,h1,h2,_⟩:=dd
  exact ⟨ob,h1,h2.2.1⟩
 ·obtain ⟨_,hd,xs,_,dd⟩:=dt_rd I.hok e
  refine ⟨dd.typeIs,fun b q=>?_,hd⟩
  (injection q with q; subst q)
  obtain ⟨ob,_,_,h1,h2,_⟩:=dd
  exact ⟨ob,h1,h2.2.1⟩
section
variable {X:Cx} {pins:List (Addr × Obj)} {σ:St} {H:Hp} {s:Shared} {a:Addr} {y d:V} {u r:Value} {o:Option V} {A:Around} {E:Value→Shared→Prop}
theorem d_get1 {Q:Value→Shared→Prop} (hu:A.units+1 < cLine) (I:Inv X pins σ H s) (g:DGet H a y o) (ry:RelV y u) (h:∀ w' s',Inv X pins σ H s'→RelV (o.getD .non) w'→Q w' s') :
  wpAny (model X.prog X.w) A (call (.builtin "dict.get") [.ref a, u]) Q E s := by
 rcases g with ⟨kvs,k,e,ey,l⟩ | ⟨kvs,k,b,e,ey,eb,l⟩
 ·subst ey
  obtain ⟨z,hd,vs,rel,dd⟩:=hJ I.hok e
  refine call_meetsIn vt dd.typeIs si (PySem.F.args_dict_get_2 _ _) (meets_dict_get (bf X.prog X.w) a (kV_is ry) hd) ⟨_,dd.mapOf,h _ _ (I.tok _) ?_⟩
  rw [l]
  exact (rel.val k).getD rfl
 ·subst ey
  cases (show u=x9 b from ry)
  obtain ⟨z,hd,xs,rel,dd⟩:=dt_rd I.hok e
  refine call_meetsIn vt dd.typeIs si (PySem.F.args_dict_get_2 _ _) (meetsH_dict_get (na (bf X.prog X.w)) a b hd) ⟨uk hu,k,xs,gN I.hok eb,dd,h _ _ (I.tok _) ?_⟩
  rw [l]
  exact (rel.val k).getD rfl
theorem d_get2 {Q:Value→Shared→Prop} (hu:A.units+1 < cLine) (I:Inv X pins σ H s) (g:DGet H a y o) (ry:RelV y u) (rd:RelV d r) (h:∀ w' s',Inv X pins σ H s'→RelV (o.getD d) w'→Q w' s') :
  wpAny (model X.prog X.w) A (call (.builtin "dict.get") [.ref a, u, r]) Q E s := by
 rcases g with ⟨kvs,k,e,ey,l⟩ | ⟨kvs,k,b,e,ey,eb,l⟩
 ·subst ey
  obtain ⟨z,hd,vs,rel,dd⟩:=hJ I.hok e
  refine call_meetsIn vt dd.typeIs si (PySem.F.args_dict_get_3 _ _ _) (meets_dict_get_default (bf X.prog X.w) a (kV_is ry) hd r) ⟨_,dd.mapOf,h _ _ (I.tok _) ?_⟩
  rw [l]
  exact (rel.val k).getD rd
 ·subst ey
  cases (show u=x9 b from ry)
  obtain ⟨z,hd,xs,rel,dd⟩:=dt_rd I.hok e
  refine call_meetsIn vt dd.typeIs si (PySem.F.args_dict_get_3 _ _ _) (meetsH_dict_get_default (na (bf X.prog X.w)) a b hd r) ⟨uk hu,k,xs,gN I.hok eb,dd,h _ _ (I.tok _) ?_⟩
  rw [l]
  exact (rel.val k).getD rd
end
noncomputable def tDGet1 (td ty:TE):TE:=fun σ H Q=>td σ H fun x H1=>∃ a,x=.ref a∧IsD H1 a∧ty σ H1 fun y H2=>∃ o,DGet H2 a y o∧Q (o.getD .non) H2
noncomputable def tDGet2 (td ty tx:TE):TE:=fun σ H Q=>td σ H fun x H1=>∃ a,x=.ref a∧IsD H1 a∧ty σ H1 fun y H2=>tx σ H2 fun z H3=>∃ o,DGet H3 a y o∧Q (o.getD z) H3
section
variable {X:Cx} {o e f:Expr} {apos cpos:Pos} {td ty tx:TE}
theorem pe_dget1 (hu : X.A.units + 1 < cLine) (ho : PE X o td) (he : PE X e ty) (m : M1 X o "get" apos e cpos) : PE X (.Call (.Attribute o "get" apos) [e] [] cpos) (tDGet1 td ty) := by
 intro pins s σ H Q I h
 refine wpAny_Call_method m.base m.few m.line PySem.F.plainAttrs_dict vt PySem.F.type_dict_get (thn (ho pins s σ H _ I h) fun u s1 hh_=>?_)
 obtain ⟨x,H1,I1,rx,a,ex,d,q1⟩:=hh_
 subst ex
 obtain rfl:u=x9 a:=rx
 obtain ⟨t1,t2,_⟩:=isD_at I1 d
 refine ⟨t1,t2, ?_⟩
 rw [m.trees]
 refine sr rfl (og (uo (thn (he pins s1 σ H1 _ I1 q1) fun iv s2 hh_=>?_)))
 obtain ⟨y,H2,I2,ry,ov,g,q2⟩:=hh_
 refine rb ?_
 exact d_get1 hu I2 g ry fun w' s3 I3 rw'=>⟨_,H2,I3,rw',q2⟩
theorem pe_dget2 (hu : X.A.units + 1 < cLine) (ho : PE X o td) (he : PE X e ty) (hf : PE X f tx) (m : M2 X o "get" apos e f cpos) : PE X (.Call (.Attribute o "get" apos) [e, f] [] cpos) (tDGet2 td ty tx) := by
 intro pins s σ H Q I h
 refine wpAny_Call_method m.base m.few m.line PySem.F.plainAttrs_dict vt PySem.F.type_dict_get (thn (ho pins s σ H _ I h) fun u s1 hh_=>?_)
 obtain ⟨x,H1,I1,rx,a,ex,d,q1⟩:=hh_
 subst ex
 obtain rfl:u=x9 a:=rx
 obtain ⟨t1,t2,_⟩:=isD_at I1 d
 refine ⟨t1,t2, ?_⟩
 rw [m.trees]
 refine sr rfl (og (uo (thn (he pins s1 σ H1 _ I1 q1) fun iv s2 ⟨y,H2,I2,ry,q2⟩ =>
  uo (thn (hf pins s2 σ H2 _ I2 q2) fun fv s3 ⟨z,H3,I3,rz,ov,g,q3⟩=>rb ?_))))
 exact d_get2 hu I3 g ry rz fun w' s4 I4 rw'=>⟨_,H3,I4,rw',q3⟩
end
section
variable {X:Cx} {pins:List (Addr × Obj)} {σ:St} {H:Hp} {s:Shared} {a:Addr} {kvs:List (Key × V)} {A:Around} {E:Value→Shared→Prop}
end
section
variable {X:Cx} {pins:List (Addr × Obj)} {σ:St} {H:Hp} {s:Shared} {a:Addr} {y:V} {u:Value} {A:Around} {E:Value→Shared→Prop}
end
end L2
namespace Att
open PySem PySem.W PySem.Calls PyProof.Rows
theorem gQ {P:Params} {h:Heap}:∀ (ns:List Int) (vs:List Value),WellAll P h vs (ns.map WData.int)→pf vs ns:=by
 intro ns
 induction ns with
 | nil =>
  intro vs w
  rw [List.map_nil] at w
  cases w
  exact .nil
 | cons n ns ih =>
  intro vs w
  rw [zc] at w
  cases w with
  | cons a b =>
   cases a
   exact .cons _ _ (ih _ b)
theorem script_of {l:OpenLaw} {n:Nat} (hn:l.most=some n) {P:Params} {h:Heap} {args:List WData} {vals:List Value}
  (hpre:l.row.toRowW.claim.pre args=true) (hwl:WellAll P h vals args) :
  ∃ a vs ns, vals = [x9 a] ∧ args = [WData.list (ns.map WData.int)] ∧ h.get? a = some { cls := .type "list", data := .seq vs.toArray } ∧ pf vs ns ∧ ns.length ≤ n := by
 have hsh:WShape.hasAll [] args [.list .int]=true:=(pre_splitW hpre).1
 have hc:l.pre.holds [] { args:=args }=true:=(pre_splitW hpre).2
 obtain ⟨d,r,rfl,h1,h2⟩:=hasAllW_cons hsh
 obtain rfl:=hasAllW_nil h2
 obtain ⟨xs,rfl,h3⟩:=hasW_list h1
 obtain ⟨ns,rfl⟩:=items_int h3
 have hlen:ns.length≤n:=by
  unfold OpenLaw.pre at hc
  have h4:(WTm.not (.lt (.lit (.int (n:Int))) (.len (.arg 0)))).holds [] { args:=[.list (ns.map .int)] }=true:=by
   have h4:=(holds_andW hc).1
   rw [hn] at h4
   exact h4
  have h5:=condW_of h4 (w_not (w_lt w_lit (w_len_list (w_arg rfl))))
  rw [z7] at h5
  refine Nat.le_of_not_lt fun q=>?_
  have q':(n:Int) < ((ns.length:Nat):Int):=by exact ve.mpr ‹_›
  first
   | (rw [decide_eq_true q'] at h5; exact absurd h5 (by decide))
   | (simp at h5; omega)
 cases hwl with
 | cons w1 w2 =>
  cases w2
  cases w1 with
  | list ho hall=>exact ⟨_,_,ns,rfl,rfl,ho,gQ ns _ hall,hlen⟩
theorem post_true (l:OpenLaw) (args:List WData):l.row.toRowW.claim.post args (.bool true) args=true :=
 postW_of (r:=l.row.toRowW) (X:=(true == true))
  (show WShape.has [] (.bool true) .bool=true by first | rfl | decide | simp [WShape.has,WShape.arms,WShape.armsAll])
  (show (WTm.eq .res (.lit (.bool true))).value [] { args:=args,res:=some (.bool true),after:=args }=some (.bool (true == true)) from w_eq_bool (w_res rfl) w_lit) rfl
theorem attach_call {l:OpenLaw} {n:Nat} {q:yp} {loose:List Str} {XP:(Str→Option Value)→Heap→Prop} {YP:World→Heap→Prop} {d:DefRec}
  (hn:l.most=some n) (hdf:d.params.defaults=[])
  (call:∀ (w:World) (s₀ s₁:Shared) (mg mb:Str→Option Value) (fa:Addr) (o:Obj) (pm cd doc:Value) (a:Addr) (vs:List Value) (ns:List Int),
   Ground q loose [] XP w s₀ mg mb s₁.heap→YP w s₁.heap →
   s₁.heap.get? fa=some o→o.data=.func (docDef d.name d.params d.body d.scope pm cd doc)→s₁.heap.CodeRec cd d.name→mg d.name=some (.ref fa) →
   s₁.heap.get? a = some { cls := .type "list", data := .seq vs.toArray } → pf vs ns → ns.length ≤ n → s₁.gens = #[] →
   qq (model l.prog w) callerA (.call (.ref fa) ⟨[.ref a],[]⟩) (fun r s'=>r=.ok (.ret (.bool true))∧OldK s₁.heap s'.heap∧s'.os=s₁.os∧me s'.gens) s₁) :
  WalkO q loose XP YP l.row.toRowW d [] (fun f vs=>PySem.call f vs):=by
 intro w s₀ s₁ mg mb G Y fa o pm cd doc dV kV ho hd hcd hD hmg hg args vals as hpre hlay hrd hwl hlo
 obtain rfl:dV=.none:=Dflts.none hD hdf
 obtain rfl:kV=.none:=Dflts.noKw hD
 obtain ⟨a,vs,ns,rfl,rfl,hobj,hints,hlen⟩:=script_of hn hpre hwl
 refine enter_call (codeAny_mono (call w s₀ s₁ mg mb fa o pm cd doc a vs ns G Y ho (fd_plain hd) hcd hmg hobj hints hlen hg) fun r s' hq=>?_)
 obtain ⟨rfl,h2,h3,h4⟩:=hq
 exact ⟨.inl ⟨.bool true,.bool true,[],rfl,fun _=>rfl,.bool true,post_true l _,fun _=>⟨List.Pairwise.nil,fun _ hm=>(nomatch hm)⟩⟩,h2,h3,h4⟩
section
variable {prog:yp} {w:World} {A:Around} {E:Value→Shared→Prop} {s:Shared} {K:Frag}
end
end Att
namespace L2
open PySem PySem.Spec PyProof.Rows
theorem vals_ints:∀ {vs:List Value} {ns:List Int},pf vs ns→Vals (ns.map V.int) vs:=by
 intro vs ns h
 induction h with
 | nil=>exact .nil
 | cons n t h ih=>exact .cons ⟨t,rfl⟩ ih
noncomputable def Only (H:Hp):Prop:=∀ b,H b=none∨∃ o xs,H b=some (.frz o (.lst xs))
theorem law_call {P:yp} {w:World} {K:ze} {mg mb:Str→Option Value} {CX:CXT} {k:Nat} {fa a:Addr} {fd:x6} {x:Str} {sp:Sp} {s₁:Shared} {vs:List Value} {ns:List Int}
  (KX : K.In s₁.heap) (hns : s₁.heap.Ns y7 mg) (hb : s₁.heap.Ns builtinsNs mb) (hbb : ∀ x : Str, x ≠ "__name__" → mb x = yr x) (hlim : s₁.heap.NoLimit) (hg : s₁.gens = #[])
  (ha : s₁.heap.get? a = some { cls := .type "list", data := .seq vs.toArray }) (hi : pf vs ns) (hl : ns.length ≤ y4) (hr : Room k callerA)
  (F:∀ base:Heap,K.In base→base.Ns y7 mg→FnOk P w K mg base CX k fa fd [x] sp) (hbind:∀ (s:Shared) (u:Value),BindsTo s fd ⟨[u],[]⟩ [(x,u)])
  (hsp:∀ H:Hp,Only H→SqL K H a (ns.map V.int)→sp [.ref a] H (fun v _=>v=.bl true) fun _ _ _=>False)
  (hCX:∀ H e s',CX [] H s₁ (fun _ _ _=>False) e s'→False) :
  qq (model P w) callerA (.call (.ref fa) ⟨[.ref a],[]⟩) (fun r s'=>r=.ok (.ret (.bool true))∧OldK s₁.heap s'.heap∧s'.os=s₁.os∧me s'.gens) s₁:=by
 have rv:=vals_ints hi
 have lenV:=hi.length
 have core:∀ H:Hp,Only H→SqL K H a (ns.map V.int)→HOk P w H s₁.heap→(∀ b,H b≠none→b=a)→(H a≠none→K.lookup a=none) →
   qq (model P w) callerA (.call (.ref fa) ⟨[.ref a],[]⟩) (fun r s'=>r=.ok (.ret (.bool true))∧OldK s₁.heap s'.heap∧s'.os=s₁.os∧me s'.gens) s₁:=by
  intro H hO hS hok hA hK
  have base_of:∀ {b:Addr} {o:Obj},s₁.heap.get? b=some o→H b=none→(hidT s₁.heap H).get? b=some o:=fun e n=>hidT_get e n
  have noA:∀ {b:Addr} {o:Obj} {es:Array DictEntry} {ep:Nat},s₁.heap.get? b=some o→o.data=.dict es ep→H b=none:=fun {b o es ep} e d=>by
   cases q:H b with
   | none=>rfl
   | some u =>
    have e':b=a:=hA b (by rw [q]; simp)
    subst e'
    rw [ha] at e; (injection e with e; subst e)
    have d':Data.seq vs.toArray _=Data.dict es ep:=d
    injection d'
  have nsK:∀ {b:Addr} {m:Str→Option Value},s₁.heap.Ns b m→(hidT s₁.heap H).Ns b m:=fun {b m} ⟨o,es,ep,e,d,r⟩=>⟨o,es,ep,base_of e (noA e d),d,r⟩
  have hKb:K.In (hidT s₁.heap H):=fun b o e=>base_of (KX b o e) (by
   cases q:H b with
   | none=>rfl
   | some u =>
    have e':b=a:=hA b (by rw [q]; simp)
    subst e'
    rw [hK (by rw [q]; simp)] at e; injection e)
  have hM:Mod K mg (hidT s₁.heap H):=⟨hKb,nsK hns,⟨mb,nsK hb,hbb⟩,let ⟨mc,h1,h2⟩:=hlim; ⟨mc,nsK h1,h2⟩⟩
  have e0:Env0 P w K mg (hidT s₁.heap H) callerA [] s₁ H:=⟨rfl,hM,fun b o e=>of_hidT e,xy (hidT_size _ _),trivial,fun b hb=>absurd (show b∈([]:List Addr) from hb) (by simp),hok,.of_eq hg⟩
  refine codeAny_mono ((F _ hKb (nsK hns)).run callerA [] s₁ H ⟨[.ref a],[]⟩ [.ref a] [.ref a] _ _ hr e0 (hbind s₁ (.ref a)) (.cons rfl .nil) (hsp H hO hS)) fun r s' h=>?_
  cases r with
  | error e=>exact (hCX H e s' h).elim
  | ok fl =>
   cases fl with
   | next=>exact ub h
   | brk=>exact ub h
   | cont=>exact ub h
   | ret u =>
    obtain ⟨v,H',os,bare,un,hok',r',q⟩:=h
    have q':v=.bl true:=q
    subst q'
    obtain rfl:u=Value.bool true:=r'
    refine ⟨rfl,OldK.of_keep fun b o e=>?_,os,bare⟩
    cases q:H b with
    | none=>exact un.keep b o e q (by intro z; exact absurd (show b∈([]:List Addr) from z) (by simp)) (by simp)
    | some u =>
     rcases hO b with z | ⟨ob,xs,z⟩
     ·rw [q] at z; injection z
     ·have z2:=un.frzs b ob _ z
      obtain ⟨e1,_⟩:=hok b _ z
      obtain ⟨e2,_⟩:=hok' b _ z2
      rw [e] at e1; (injection e1 with e1; subst e1)
      exact e2
 cases hk:K.lookup a with
 | some o =>
  have e:=KX a o hk
  rw [ha] at e
  (injection e with e; subst e)
  refine core (fun _=>none) (fun _=>.inl rfl) (.inr ⟨_,vs.toArray,_,hk,rfl,rfl,rfl,by rw [zn,lenV]; exact hl,by simpa using rv⟩) (fun b u z=>by have z':(none:Option HO)=some u:=z; injection z') (fun b z=>absurd rfl z) fun z=>absurd rfl z
 | none =>
  refine core (fun b => if b = a then some (.frz { cls := .type "list", data := .seq vs.toArray } (.lst (ns.map V.int))) else none) (fun b => ?_) (.inl (.inr ⟨{ cls := .type "list", data := .seq vs.toArray }, if_pos rfl⟩)) (fun b u z => ?_) (fun b z => ?_) fun _ => hk
  ·by_cases hb:b=a
   ·exact .inr ⟨_,_,if_pos hb⟩
   ·exact .inl (if_neg hb)
  ·by_cases hb:b=a
   ·have z':=(if_pos hb).symm.trans z
    (injection z' with z'; subst z')
    subst hb
    exact ⟨ha,by rw [z7]; exact hl,vs,_,rv,ha⟩
   ·have z':=(if_neg hb).symm.trans z
    injection z'
  ·by_cases hb:b=a
   ·exact hb
   ·exact absurd (if_neg hb) z
end L2
namespace L2
open PySem PySem.Spec PyProof.Rows
theorem walk_of {l:PySem.W.OpenLaw} {n k:Nat} {q:yp} {loose:List Str} {XP:(Str→Option Value)→Heap→Prop} {YP:World→Heap→Prop} {d:DefRec} {K:Params→ze} {CX:World→CXT} {sp:World→Sp} {x:Str}
  (hn:l.most=some n) (hn2:n≤y4) (hdf:d.params.defaults=[]) (hr:Room k callerA)
  (hY:∀ (w:World) (h:Heap),YP w h→(K w.params).In h)
  (F:∀ (w:World) (mg:Str→Option Value) (fa:Addr) (h:Heap),(K w.params).In h→h.Ns y7 mg→mg d.name=some (.ref fa) →
   ∃ fd:x6,(∀ (s:Shared) (u:Value),BindsTo s fd ⟨[u],[]⟩ [(x,u)]) ∧
    ∀ base:Heap,(K w.params).In base→base.Ns y7 mg→FnOk l.prog w (K w.params) mg base (CX w) k fa fd [x] (sp w))
  (hsp:∀ (w:World) (H:Hp) (a:Addr) (ns:List Int),ns.length≤n→Only H→SqL (K w.params) H a (ns.map V.int)→sp w [.ref a] H (fun v _=>v=.bl true) fun _ _ _=>False)
  (hCX:∀ (w:World) (H:Hp) (s:Shared) (e:Value) (s':Shared),CX w [] H s (fun _ _ _=>False) e s'→False) :
  PySem.W.WalkO q loose XP YP l.row.toRowW d [] (fun f vs=>PySem.call f vs):=by
 refine Att.attach_call hn hdf fun w s₀ s₁ mg mb fa o pm cd doc a vs ns G Y ho hd hcd hmg hobj hints hlen hg=>?_
 have KX:=hY w _ Y
 obtain ⟨fd,hb,hF⟩:=F w mg fa _ KX G.T.g hmg
 exact law_call KX G.T.g G.T.b G.T.builtins G.T.nolimit hg hobj hints (z5 hlen hn2) hr hF hb (fun H hO hS=>hsp w H a ns hlen hO hS) fun H e s'=>hCX w H s₁ e s'
end L2
namespace L2
open PySem PySem.Spec PyProof.Rows
noncomputable def inClass (s:Stmt) (j:Nat):Stmt:=match s with
 | .ClassDef _ _ _ body _ _ _ _ _ _ _=>body.getD j (.Pass ⟨0,0,0,0⟩)
 | _=>.Pass ⟨0,0,0,0⟩
noncomputable def am (s:Stmt):Arguments:=match s with
 | .FunctionDef _ a _ _ _ _ _ _ _ _=>a
 | _=>{ posonlyargs:=[],args:=[],vararg:=none,kwonlyargs:=[],kw_defaults:=[],kwarg:=none,defaults:=[] }
noncomputable def ag (s:Stmt):List Stmt:=match s with
 | .FunctionDef _ _ b _ _ _ _ _ _ _=>b
 | _=>[]
noncomputable def ab (s:Stmt):Scope:=match s with
 | .FunctionDef _ _ _ _ _ _ sc _ _ _=>sc
 | _=>{ kind:=.function,names:=[],isGenerator:=false,isCoroutine:=false }
noncomputable abbrev CX0:CXT:=fun _ _ _ _ _ _=>False
noncomputable abbrev E0:XK:=fun _ _ _=>False
theorem pass0 {X:Cx}:iN CX0 X E0:=fun _ _ _ _ _ _ _ h=>h.elim
structure Fun (K:ze) (x qual:Str) (st:Stmt) (f:Addr) (fd:x6):Prop where
 ex:∃ (oc:Value) (od:Option Addr) (kV doc pm:Value) (an:Option Addr) (cdv ct:Value) (osl:Array (Option Value)),
  fd=zp x qual (am st) (ag st) (ab st) .none kV doc pm an cdv ct∧K.lookup f=some ⟨oc,od,.func fd,osl⟩∧yo K cdv qual=true
 kp:yb K (.ref f)=true
section
variable {P:yp} {w:World} {K:ze} {mg:Str→Option Value} {base:Heap}
theorem Fun.ok {x qual:Str} {st:Stmt} {f:Addr} {fd:x6} {N ps:List Str} {k:Nat} {sp:Sp} (F:Fun K x qual st f fd) (S:aO N ps (ab st)) (len:∀ vs H Q E,sp vs H Q E→vs.length=ps.length)
  (hbody:∀ (cdv:Value) (A:Around) (outer:List Env) (s:Shared) (H:Hp) (vs:List V) (Q:VK) (E:XK),Room k (A.deeper (envOfC qual (ab st) s.heap.objs.size f cdv))→sp vs H Q E →
   ∃ t,PSs (cxOf CX0 P w K mg base N qual (ab st) f cdv A outer s H E).nox (ag st) t∧t { nx:=fun _ H'=>Q .non H',rt:=Q } (dI N vs) H):FnOk P w K mg base CX0 (k+1) f fd ps sp:=by
 obtain ⟨oc,od,kV,doc,pm,an,cdv,ct,osl,rfl,lk,hcd⟩:=F.ex
 refine fn_of lk hcd S len fun A outer s H vs Q E hr hsp=>?_
 obtain ⟨t,h,q⟩:=hbody cdv A outer s H vs Q E hr hsp
 exact ⟨t,h.nox,q⟩
theorem Fun.binds {x qual:Str} {st:Stmt} {f:Addr} {fd:x6} {ps:List Str} (F:Fun K x qual st f fd)
  (h:∀ (kV doc pm:Value) (an:Option Addr) (cdv ct:Value) (us:List Value),us.length=ps.length→wj (zp x qual (am st) (ag st) (ab st) .none kV doc pm an cdv ct) ⟨us,[]⟩=pure (ps.zip us)):eN K fd ps []:=by
 obtain ⟨oc,od,kV,doc,pm,an,cdv,ct,osl,rfl,lk,hcd⟩:=F.ex
 exact .all (h kV doc pm an cdv ct)
theorem bN {x qual:Str} {st:Stmt} {f:Addr} {oc:Value} {od an:Option Addr} {osl:Array (Option Value)} {kV doc pm cdv ct:Value} (l:K.lookup f=some ⟨oc,od,.func (zp x qual (am st) (ag st) (ab st) .none kV doc pm an cdv ct),osl⟩)
  (c:yo K cdv qual=true) (k:yb K (.ref f)=true):Fun K x qual st f (zp x qual (am st) (ag st) (ab st) .none kV doc pm an cdv ct):=⟨⟨oc,od,kV,doc,pm,an,cdv,ct,osl,rfl,l,c⟩,k⟩
end
section
variable {X:Cx}
end
theorem iteF {A B:Prop} (h:B):if false=true then A else B:=by
 rw [if_neg y9]
 exact h
theorem iteT {A B:Prop} (h:A):if true=true then A else B:=by
 rw [if_pos rfl]
 exact h
noncomputable def Same (H H':Hp):Prop:=∀ b o,H b=some o→H' b=some o
theorem Same.refl (H:Hp):Same H H:=fun _ _ h=>h
theorem Same.trans {H H1 H2:Hp} (a:Same H H1) (b:Same H1 H2):Same H H2:=fun c o h=>b c o (a c o h)
theorem Same.free {H H':Hp} (e:Same H H') {l:Addr} (h:H' l=Option.none):H l=Option.none:=by
 cases q:H l with
 | none=>rfl
 | some o =>
  rw [e l o q] at h
  injection h
section
variable {κ:Type} [DecidableEq κ]
end
end L2
namespace PySem
noncomputable def capt (cells:List (Str × Addr)):List (Str × ya)→List (Str × Addr)→List (Str × Addr)
 | [],acc=>acc
 | (n,k)::r,acc=>capt cells r (if k=ya.free then (match cells.lookup n with | some c=>(n,c)::acc | none=>acc) else acc)
theorem capt_go (env:Env):∀ (l:List (Str × ya)) (acc:List (Str × Addr)),(∀ x∈l,x.2=ya.free→∃ c,env.cells.lookup x.1=some c) →
  (forIn l acc (fun x cs=>match x with
    | (name,kind) =>
     if (kind == ya.free)=true then do
      let c ← cellOf env name
      pure (su ((name,c)::cs))
     else pure (su cs)):Sem (List (Str × Addr)))=pure (capt env.cells l acc)
 | [],acc,_=>rfl
 | (n,k)::r,acc,h=>by
  rw [List.forIn_cons]
  by_cases hk:k=ya.free
  ·subst hk
   obtain ⟨c,hc⟩:=h (n,ya.free) za rfl
   have hc':env.cells.lookup n=some c:=hc
   show ((if (ya.free == ya.free)=true then _ else _) >>= _)=_
   rw [if_pos (show (ya.free == ya.free)=true from rfl)]
   rw [show cellOf env n=pure c by unfold cellOf; rw [hc']]
   show (forIn r ((n,c)::acc) _:Sem _)=_
   rw [capt_go env r ((n,c)::acc) (fun x hx=>h x (z8 _ hx))]
   show _=pure (capt env.cells r (if ya.free=ya.free then (match env.cells.lookup n with | some c=>(n,c)::acc | none=>acc) else acc))
   rw [if_pos rfl,hc']
  ·have hb:(k == ya.free)=false:=by simpa using hk
   show ((if (k == ya.free)=true then _ else _) >>= _)=_
   rw [hb,if_neg y9]
   show (forIn r acc _:Sem _)=_
   rw [capt_go env r acc (fun x hx=>h x (z8 _ hx))]
   show _=pure (capt env.cells r (if k=ya.free then (match env.cells.lookup n with | some c=>(n,c)::acc | none=>acc) else acc))
   rw [if_neg hk]
theorem closure_capt {sc:Scope} {env:Env} (h:∀ x∈sc.names,x.2=ya.free→∃ c,env.cells.lookup x.1=some c):closureFor sc env=pure (capt env.cells sc.names []):=by
 show (forIn sc.names ([]:List (Str × Addr)) _ >>= fun cs=>pure cs)=_
 rw [capt_go env sc.names [] h]
 rfl
theorem capt_look {cells:List (Str × Addr)}:∀ {l:List (Str × ya)} {acc:List (Str × Addr)} {x:Str} {c:Addr},(capt cells l acc).lookup x=some c→acc.lookup x=some c∨(cells.lookup x=some c∧(x,ya.free)∈l)
 | [],_,_,_,h=>.inl h
 | (n,k)::r,acc,x,c,h=>by
  rcases capt_look (l:=r) h with h1 | ⟨h1,h2⟩
  ·by_cases hk:k=ya.free
   ·subst hk
    rw [if_pos rfl] at h1
    cases e:cells.lookup n with
    | none=>rw [e] at h1; exact .inl h1
    | some d =>
     rw [e] at h1
     have h1:wk x ((n,d)::acc)=some c:=h1
     rw [yf] at h1
     cases hx:x == n with
     | true =>
      rw [hx] at h1
      have h1:some d=some c:=h1
      have hx':x=n:=by simpa using hx
      rw [hx',← h1]
      exact .inr ⟨e,za⟩
     | false=>rw [hx] at h1; exact .inl h1
   ·rw [if_neg hk] at h1; exact .inl h1
  ·exact .inr ⟨h1,z8 _ h2⟩
set_option tactic.hygienic true in
theorem capt_keep {cells:List (Str × Addr)}:∀ {l:List (Str × ya)} {acc:List (Str × Addr)} {x:Str},(acc.lookup x).isSome=true→((capt cells l acc).lookup x).isSome=true
 | [],_,_,h=>h
 | (n,k)::r,acc,x,h=>by
  refine capt_keep (l:=r) ?_
  split
  ·split
   ·rename_i d _
    show (wk x ((n,d)::acc)).isSome=true
    rw [yf]
    cases x == n
    ·exact h
    ·rfl
   ·exact h
  ·exact h
theorem jE {cells:List (Str × Addr)}:∀ {l:List (Str × ya)} {acc:List (Str × Addr)} {x:Str} {c:Addr},(x,ya.free)∈l→cells.lookup x=some c→((capt cells l acc).lookup x).isSome=true
 | (n,k)::r,acc,x,c,hm,hc=>by
  rcases y6.mp hm with e | hm
  ·obtain ⟨e1,e2⟩:=qr.inj e
   subst e1; subst e2
   refine capt_keep (l:=r) ?_
   rw [if_pos rfl,hc]
   simp
  ·exact jE (l:=r) hm hc
variable {prog:yp} {w:World} {A:Around} {R:Result→Shared→Prop} {s:Shared}
theorem compLoop_any {elt target iter:Expr} {ifs:List Expr} {scope:Scope} {pos:Pos} {it acc:Value} {env:Env} (I:Nat→Shared→Prop) (E':Value→Shared→Prop) (hE:E'=notedBy (model prog w) A env fun e s'=>R (.error e) s')
  (turn:∀ n s,I n s→wpAny (model prog w) A (pyNext it) (fun r s₁=>match r with
   | none=>R (.ok .next) s₁
   | some v=>wpAny (model prog w) A (om target it v) (fun _ s₀=>wpAny (model prog w) A (assign target env v) (fun _ s₂ =>
     wpAny (model prog w) A (forIn ifs true fun c r=>if r=true then do let ok ← isTrue c env (eval c env); pure (su ok) else pure (su r)) (fun ok s₃ =>
      if ok = true then wpAny (model prog w) A (eval elt env) (fun x s₄ => wpAny (model prog w) A (call (.builtin "list.append") [acc, x]) (fun _ s₅ => ∃ m, m < n ∧ I m s₅) E' s₄) E' s₃
      else ∃ m,m < n∧I m s₃) E' s₂) E' s₀) E' s₁) E' s)
  (n:Nat) (h:I n s) :
  qq (model prog w) A (.compLoop (.ListComp elt [⟨target,iter,ifs,0⟩] scope pos) 0 it acc env) R s:=by
 subst hE
 refine codeAny_loop rfl I (fun n s hI=>?_) n h
 refine wpAny_noted (m:=compTurn (.ListComp elt [⟨target,iter,ifs,0⟩] scope pos) 0 it acc env) ?_
 rw [compTurn_list]
 refine z6 (wpAny_standAt (z6 (wu (turn n s hI) (fun r s₁ h₁=>?_) fun _ _ z=>z)))
 cases r with
 | none=>exact zr h₁
 | some v =>
  refine z6 (wu h₁ (fun _ s₀ h₀=>?_) fun _ _ z=>z)
  refine z6 (wu h₀ (fun _ s₂ h₂=>?_) fun _ _ z=>z)
  refine z6 (wu h₂ (fun ok s₃ h₃=>?_) fun _ _ z=>z)
  cases ok with
  | false=>exact zr ⟨rfl,h₃⟩
  | true =>
   refine z6 (z6 (wu h₃ (fun x s₄ h₄=>?_) fun _ _ z=>z))
   exact z6 (wu h₄ (fun _ s₅ h₅=>zr (zr ⟨rfl,h₅⟩)) fun _ _ z=>z)
end PySem
namespace L2
open PySem PySem.Spec PyProof.Rows
theorem zw {G:Prop} (h:∀ P:Prop,(G→P)→P):G:=h G id
noncomputable def cxC (X:Cx) (sc:Scope) (C:Addr) (fp:List Addr) (pins:List (Addr × Obj)) (s:Shared) (H:Hp):Cx where
 prog:=X.prog
 w:=X.w
 K:=X.K
 mg:=X.mg
 base:=X.base
 A:=X.A
 N:=X.N
 s₀:=s
 H₀:=H
 env:=compEnvC sc (capt X.env.cells sc.names []) C X.env
 outer:=X.stack
 stack:=X.stack
 ex:=fp
 fn:=fun x=>decide (sc.names.lookup x=some ya.local)
 calm:=X.calm
 pn:=X.pn++pins
 xe:=fun _ _=>False
structure d5 (X:Cx) (sc:Scope):Prop where
 kind:sc.kind=.function
 nocell:∀ y∈sc.names,y.2≠ya.cell
 names:∀ y∈sc.names,y.2=ya.local→sc.names.lookup y.1=some ya.local
 free:∀ y∈sc.names,y.2=ya.free→sc.names.lookup y.1=some ya.free∧(X.env.kindOf y.1=some .cell∨X.env.kindOf y.1=some .free)
theorem fJ {env:Env}:∀ {l:List (Str × ya)} {x:Str},
  (l.map fun (n,k)=>if (k == ya.free && env.scope.kind == .function && env.kindOf n == some .cell) then (n,ya.cell) else (n,k)).lookup x =
   (l.lookup x).map fun k=>if (k == ya.free && env.scope.kind == .function && env.kindOf x == some .cell) then ya.cell else k
 | [],_=>rfl
 | (n,k)::r,x=>by
  show wk x ((if (k == ya.free && env.scope.kind == .function && env.kindOf n == some .cell)=true then (n,ya.cell) else (n,k))::_)=_
  cases hx:x == n with
  | true =>
   have e:x=n:=by simpa using hx
   subst e
   split <;> rename_i hc
   ·rw [yf,yf]
    simp only [beq_self_eq_true,w8]
    rw [if_pos hc]
   ·rw [yf,yf]
    simp only [beq_self_eq_true,w8]
    rw [if_neg hc]
  | false =>
   have ih:=@fJ env r x
   split
   ·rw [yf,hx,yf,hx]; exact ih
   ·rw [yf,hx,yf,hx]; exact ih
section
variable {X:Cx} {sc:Scope} {C:Addr} {fp:List Addr} {pins:List (Addr × Obj)} {σ:St} {H:Hp} {s:Shared}
theorem gW (x:Str):(cxC X sc C fp pins s H).env.kindOf x=(sc.names.lookup x).map fun k=>if (k == ya.free && X.env.scope.kind == .function && X.env.kindOf x == some .cell) then ya.cell else k:=fJ
theorem comp_free {x:Str} (h:sc.names.lookup x=some ya.free):(cxC X sc C fp pins s H).env.kindOf x=some .cell∨(cxC X sc C fp pins s H).env.kindOf x=some .free:=by
 have e:=gW (X:=X) (sc:=sc) (C:=C) (fp:=fp) (pins:=pins) (s:=s) (H:=H) x
 rw [h] at e
 rw [e]
 simp only [w8]
 by_cases hc:(ya.free == ya.free && X.env.scope.kind == .function && X.env.kindOf x == some .cell)=true
 ·rw [if_pos hc]; exact .inl rfl
 ·rw [if_neg hc]; exact .inr rfl
theorem cu {α β:Type} [BEq α] [LawfulBEq α]:∀ {l:List (α × β)} {x:α} {k:β},l.lookup x=some k→(x,k)∈l:=by
 intro x_0
 induction x_0 with
 | nil =>
  intro _ _ h
  simp at h
 | cons p_0 r ih_ =>
  obtain ⟨n,k'⟩:=p_0
  intro x k h
  rw [yf] at h
  cases hx:x == n with
  | true =>
   rw [hx] at h
   have h:some k'=some k:=h
   have e:x=n:=by simpa using hx
   (injection h with h; subst h)
   subst e
   exact za
  | false=>rw [hx] at h; exact z8 _ (ih_ h)
theorem comp_vis {x:Str} (h:Vis (cxC X sc C fp pins s H).env.scope x) (S:d5 X sc):sc.names.lookup x=some ya.local∨sc.names.lookup x=some ya.free:=by
 have e:=gW (X:=X) (sc:=sc) (C:=C) (fp:=fp) (pins:=pins) (s:=s) (H:=H) x
 have h':(cxC X sc C fp pins s H).env.kindOf x=some .local∨(cxC X sc C fp pins s H).env.kindOf x=some .cell∨(cxC X sc C fp pins s H).env.kindOf x=some .free:=h
 rw [e] at h'
 cases q:sc.names.lookup x with
 | none=>rw [q] at h'; simp at h'
 | some k =>
  rw [q] at h'
  cases k with
  | «local» => exact .inl rfl
  | free=>exact .inr rfl
  | cell=>exact absurd rfl (S.nocell (x,.cell) (cu q))
  | globalExplicit=>simp at h'
  | globalImplicit=>simp at h'
noncomputable def dB (ow:List Nat) (σ:St):St:=ow.foldl (fun t i=>t.set i none) σ
theorem eC:∀ (ow:List Nat) (σ:St),(dB ow σ).length=σ.length:=by
 intro x_0
 induction x_0 with
 | nil =>
  intro _
  exact rfl
 | cons i r ih_ =>
  intro σ
  show (dB r (σ.set i none)).length=_
  rw [ih_]
  simp
theorem iy:∀ {ow:List Nat} {σ:St} {j:Nat} {v:V},(dB ow σ)[j]?=some (some v)→σ[j]?=some (some v)∧j∉ow:=by
 intro x_0
 induction x_0 with
 | nil =>
  intro _ _ _ h
  exact ⟨h,by simp⟩
 | cons i r ih_ =>
  intro σ j v h
  obtain ⟨h1,h2⟩:=ih_ h
  by_cases e:i=j
  ·subst e
   rw [m9] at h1
   split at h1
   ·split at h1 <;> simp at h1
   ·exact absurd rfl ‹_›
  ·rw [yu e] at h1
   exact ⟨h1,by simp [h2,wt e]⟩
theorem inv_comp {σ':St} {m:Str→Option Value} {h':Heap} {tk:Nat} (I:Inv X pins σ H s) (S:d5 X sc) (hC:s.heap.objs.size≤C) (hf:∀ b∈fp,FpOk X pins H b) (hx:∀ b∈fp,b < s.heap.objs.size)
  (k:∀ b u,s.heap.get? b=some u→h'.get? b=some u) (hn:h'.Ns C m) (hl:σ'.length=σ.length) (hw:∀ (i:Nat) (v:V),σ'[i]?=some (some v)→σ[i]?=some (some v))
  (ho:∀ (i:Nat) (x:Str) (v:V),X.N[i]?=some x→sc.names.lookup x=some ya.local→σ'[i]?≠some (some v)) :
  Inv (cxC X sc C fp pins s H) [] σ' H { s with heap:=h',toks:=tk }:=by
 have cl:∀ {x:Str} {c:Addr},(cxC X sc C fp pins s H).env.cells.lookup x=some c→X.env.cells.lookup x=some c∧sc.names.lookup x=some ya.free:=fun {x c} e=>by
  have e:(capt X.env.cells sc.names []).lookup x=some c:=e
  rcases capt_look e with z | ⟨z1,z2⟩
  ·simp at z
  ·exact ⟨z1,(S.free _ z2 rfl).1⟩
 have cold:∀ {x:Str} {c:Addr},X.env.cells.lookup x=some c→c < s.heap.objs.size:=fun {x c} e=>let ⟨_,q⟩:=I.cell x c e; q.lt
 refine ⟨⟨I.ok.mod,S.kind,I.ok.glob,I.ok.blt,hC,fun x y c e1 e2=>I.ok.inj x y c (cl e1).1 (cl e2).1,fun x hx=>?_,fun x c hx e=>?_,I.ok.hd,I.ok.frames,.inl rfl,fun b hb=>?_,I.bs,z5 I.ok.bsz I.sz,fun b o e hb=>?_,fun b hb z=>?_,I.stack,I.stkFree⟩,
  rfl,I.bare,Un.kept k,⟨m,hn,fun i x v e1 e2 e3=>?_⟩,fun x c e=>?_, ?_,fun x c e=>I.freeC x c (cl e).1,fun p hp=>?_,I.hok.kept k,hl.trans I.len⟩
 ·have hx':sc.names.lookup x=some ya.free:=by
   have e:=gW (X:=X) (sc:=sc) (C:=C) (fp:=fp) (pins:=pins) (s:=s) (H:=H) x
   rw [e] at hx
   cases q:sc.names.lookup x with
   | none=>rw [q] at hx; simp at hx
   | some k =>
    rw [q] at hx
    cases k with
    | free=>rfl
    | «local» => simp at hx
    | cell=>exact absurd rfl (S.nocell (x,.cell) (cu q))
    | globalExplicit=>simp at hx
    | globalImplicit=>simp at hx
  obtain ⟨c,hc⟩:=I.ok.has x (S.free _ (cu hx') rfl).2
  exact t6.mp (jE (acc:=[]) (cu hx') hc)
 ·have hx':sc.names.lookup x=some ya.local:=of_decide_eq_true hx
  rw [(cl e).2] at hx'
  (injection hx' with hx'; injection hx')
 ·refine zz fun P_ k_=>?_
  obtain ⟨f0,f1,f2,f3,f4,f5⟩:=hf b hb
  refine k_ ?_
  exact ⟨yh (zm (hx b hb) hC),fun x c e=>f4 x c (cl e).1⟩
 ·refine zz fun P_ k_=>?_
  obtain ⟨f0,f1,f2,f3,f4,f5⟩:=hf b hb
  refine k_ ?_
  rcases f3 with z | z
  ·exact I.ok.noex b o e z
  ·exact absurd (zm (zt e) (z5 I.ok.bsz z)) (v7 _)
 ·refine zz fun P_ k_=>?_
  obtain ⟨f0,f1,f2,f3,f4,f5⟩:=hf b hb
  refine k_ ?_
  rcases y6.mp (I.stkSub b z) with e | e
  ·exact f1 e
  ·exact f2 e
 ·rcases comp_vis e3 S with z | z
  ·exact absurd e2 (ho i x v e1 z)
  ·refine zz fun P_ k_=>?_
   obtain ⟨m0,hn0,hl0⟩:=I.loc
   have zo:=(S.free _ (cu z) rfl).2
   have vis:Vis X.env.scope x:=by rcases zo with q | q; exact .inr (.inl q); exact .inr (.inr q)
   obtain ⟨u,r,l⟩:=hl0 i x v e1 (hw i v e2) vis
   refine k_ ?_
   refine ⟨u,r,.inr ⟨comp_free z, ?_⟩⟩
   rcases l with ⟨q,_⟩ | ⟨_,c,hc,⟨oc,hoc,hd⟩⟩
   ·rcases zo with q' | q' <;> rw [q] at q' <;> (injection q' with q'; injection q')
   ·obtain ⟨c',hc'⟩:=t6.mp (jE (acc:=[]) (cu z) hc)
    have e:=(cl hc').1
    rw [hc] at e
    (injection e with e; subst e)
    exact ⟨c,hc',⟨oc,k _ _ hoc,hd⟩⟩
 ·refine zz fun P_ k_=>?_
  obtain ⟨v,oc,hoc,hd⟩:=I.cell x c (cl e).1
  refine k_ ?_
  exact ⟨v,oc,k _ _ hoc,hd⟩
 ·exact I.hok.fresh hC
 ·have hp':p∈X.pn++pins:=by simpa [cxC] using hp
  refine zz fun P_ k_=>?_
  obtain ⟨e,n,ne,nf,d⟩:=I.pin p hp'
  refine k_ ?_
  refine ⟨k _ _ e,n, ?_,fun z=>?_,d⟩
  ·show p.1≠C
   exact yh (zm (zt e) hC)
  ·rcases y6.mp (I.stkSub p.1 z) with q | q
   ·exact ne q
   ·exact nf q
noncomputable def InC (X:Cx) (sc:Scope) (X':Cx):Prop:=∃ C fp pins s H,X'=cxC X sc C fp pins s H
noncomputable def tComp (wi:TI) (g:TG) (tc:TT) (te:TE) (ow:List Nat):TE:=fun σ H Q=>wi σ H fun J H1=>∀ a,H1 a=none →
 ∃ W:Nat→Nat→List V→St→Hp→Prop,(∃ m,W 0 m [] (dB ow σ) (upd H1 a (.lst [])))∧∀ i m ys σ2 H2,W i m ys σ2 H2 →
  H2 a=some (.lst ys)∧((J.stop i H2∧Q (.ref a) H2)∨(J.go i H2∧∀ x H3,J.yld i H2 x H3→g x σ2 H3 fun σ4 H4=>tc σ4 H4 fun b H5 =>
   if b=true then te σ4 H5 fun y H6=>H6 a=some (.lst ys)∧ys.length < y4∧∃ m',m' < m∧W (i+1) m' (ys++[y]) σ4 (upd H6 a (.lst (ys++[y])))
   else ∃ m',m' < m∧W (i+1) m' ys σ4 H5))
noncomputable def tAll:TT:=fun _ H Q=>Q true H
noncomputable def PIfs (X:Cx) (sc:Scope) (ifs:List Expr) (tc:TT):Prop:=(ifs=[]∧tc=tAll)∨∃ c,ifs=[c]∧∀ X',InC X sc X'→PT X' c tc
inductive CI (X:Cx) (tn:Nat→Heap→Prop) (fp:List Addr) (W:Nat→Nat→List V→St→Hp→Prop) (n:Nat) (s:Shared):Prop
 | mk (i:Nat) (ys:List V) (σ:St) (H:Hp) (I:Inv X [] σ H s) (st:tn i s.heap) (fr:∀ b∈fp,H b=none) (w:W i n ys σ H)
theorem iC {tg iter elt:Expr} {ifs:List Expr} {pos:Pos} {g:TG} {tc:TT} {te:TE} {ow:List Nat} {it:Addr} {tn:Nat→Heap→Prop} {J:It} (I:Inv X pins σ H s) (hc:X.calm=true) (S:d5 X sc)
  (how:∀ (i:Nat) (x:Str),X.N[i]?=some x→sc.names.lookup x=some ya.local→i∈ow) (hg:∀ X',InC X sc X'→PG X' tg g) (ht:PIfs X sc ifs tc) (he:∀ X',InC X sc X'→PE X' elt te)
  (T:Turn X.prog X.w X.K tg J fp it tn) (st:tn 0 s.heap) (hf:∀ b∈fp,FpOk X pins H b) (R:V→Hp→Prop)
  (hW:∀ a,H a=none→∃ W:Nat→Nat→List V→St→Hp→Prop,(∃ m,W 0 m [] (dB ow σ) (upd H a (.lst [])))∧∀ i m ys σ2 H2,W i m ys σ2 H2 →
   H2 a=some (.lst ys)∧((J.stop i H2∧R (.ref a) H2)∨(J.go i H2∧∀ x H3,J.yld i H2 x H3→g x σ2 H3 fun σ4 H4=>tc σ4 H4 fun b H5 =>
    if b=true then te σ4 H5 fun y H6=>H6 a=some (.lst ys)∧ys.length < y4∧∃ m',m' < m∧W (i+1) m' (ys++[y]) σ4 (upd H6 a (.lst (ys++[y])))
    else ∃ m',m' < m∧W (i+1) m' ys σ4 H5)))
  {RR:Value→Addr→Result→Shared→Prop}
  (hRR:∀ a C s' H' m,s.heap.objs.size≤C→Inv X pins σ H' s'→s'.heap.Ns C m→H' C=none→C≠X.env.locals→(∀ x c,X.env.cells.lookup x=some c→c≠C)→(∀ p∈X.pn++pins,p.1≠C)→R (.ref a) H'→RR (.ref a) C (.ok .next) s')
  (E:Value→Shared→Prop) :
  wpAny (model X.prog X.w) X.A (newList []) (fun acc s₃=>wpAny (model X.prog X.w) X.A (newFunctionEnv sc X.env.globals (capt X.env.cells sc.names []) [] X.env.qual none .none (some X.env)) (fun cenv s₄ =>
   qq (model X.prog X.w) X.A (.compStart (.ListComp elt [⟨tg,iter,ifs,0⟩] sc pos) 0 (.ref it) acc { cenv with scope:=relabel sc X.env }) (RR acc cenv.locals) s₄) E s₃) E s:=by
 refine wd (wpAny_newFunctionEnv S.nocell (by intro y hy; simp at hy) (fun h₁ hns₁ hsb₁=>?_) S.kind)
 dsimp only at hns₁ hsb₁ ⊢
 have hna:H s.heap.objs.size=none:=I.hok.fresh (zf _)
 have I1 : Inv X pins σ (upd H s.heap.objs.size (.lst [])) { s with heap := s.heap.push { cls := .type "list", dict := none, data := .seq ([] : List Value).toArray } } :=
  I.laid (t':=s.toks) (fun b u e=>zb _ e) (zf _) ⟨xc _,[],0,.nil,zy _ rfl⟩
 generalize hH2 : s.heap.push { cls := .type "list", dict := none, data := .seq ([] : List Value).toArray } = h2 at hns₁ hsb₁ I1 ⊢
 have hC:h2.objs.size=s.heap.objs.size+1:=by rw [← hH2,ph]
 have old:∀ b o,h2.get? b=some o→h₁.get? b=some o:=fun b o e=>hsb₁.extBut b o (yh (zt e)) (zb _ e)
 have fpl:∀ b∈fp,b < s.heap.objs.size:=fun b hb=>let ⟨o,e,_⟩:=T.obj 0 _ st b hb; zt e
 have ups:∀ b,b < s.heap.objs.size→upd H s.heap.objs.size (.lst []) b=H b:=fun b hb=>ah (yh hb)
 have hf1:∀ b∈fp,FpOk X pins (upd H s.heap.objs.size (.lst [])) b:=fun b hb=>by
  obtain ⟨f0,f⟩:=hf b hb
  exact ⟨by rw [ups b (fpl b hb)]; exact f0,f⟩
 have Ib:Inv (cxC X sc h2.objs.size fp pins { s with heap:=h2 } (upd H s.heap.objs.size (.lst []))) [] (dB ow σ) (upd H s.heap.objs.size (.lst [])) { s with heap:=h₁,toks:=s.toks+([]:List (Str × Value)).length } :=
  inv_comp (s:={ s with heap:=h2 }) I1 S (zf _) hf1 (fun b hb=>zm (fpl b hb) (by show _≤h2.objs.size; (clear I hc S how hg ht he T st hf hW hRR hna hH2 hns₁ hsb₁ I1 old fpl ups hf1 hb; omega))) old hns₁ (eC _ _) (fun i v e=>(iy e).1) fun i x v e1 e2 e3=>(iy e3).2 (how i x e1 e2)
 have inC:InC X sc (cxC X sc h2.objs.size fp pins { s with heap:=h2 } (upd H s.heap.objs.size (.lst []))):=⟨_,_,_,_,_,rfl⟩
 let X':Cx:=cxC X sc h2.objs.size fp pins { s with heap:=h2 } (upd H s.heap.objs.size (.lst []))
 have Ib:Inv X' [] (dB ow σ) (upd H s.heap.objs.size (.lst [])) { s with heap:=h₁,toks:=s.toks+([]:List (Str × Value)).length }:=Ib
 have st1:tn 0 h₁:=T.keep 0 _ _ st fun b hb o e=>old b o (hH2 ▸ zb _ e)
 have fpX:∀ {H':Hp},(∀ b∈fp,H' b=none)→∀ b∈fp,FpOk X' [] H' b:=fun {H'} hn b hb=>by
  obtain ⟨f0,f1,f2,f3,f4,f5⟩:=hf b hb
  obtain ⟨g1,g2⟩:=Ib.ok.exf b hb
  refine ⟨hn b hb,g1,fun z=>Ib.ok.exfs b hb z,.inl hb,g2,fun p hp=>?_⟩
  refine f5 p ?_
  have hp:p∈(X.pn++pins)++[]:=hp
  simpa using hp
 have back:∀ {σ3:St} {H3:Hp} {s4:Shared},Inv X' [] σ3 H3 s4→Inv X pins σ H3 s4:=fun {σ3 H3 s4} I4=>by
  refine Inv.call' (ch:=fp) I1 I4.os I4.base I4.hok I4.bare fun b hb=>?_
  obtain ⟨f0,f1,f2,f3,f4,f5⟩:=hf b hb
  exact ⟨f3,f1,f4,f5⟩
 have fin:∀ {σ3:St} {H3:Hp} {s4:Shared},Inv X' [] σ3 H3 s4→R (.ref s.heap.objs.size) H3→RR (.ref s.heap.objs.size) h2.objs.size (.ok .next) s4:=fun {σ3 H3 s4} I4 q=>by
  obtain ⟨m4,n4,_⟩:=I4.loc
  have n4':s4.heap.Ns h2.objs.size m4:=n4
  have fC:H3 h2.objs.size=none:=I4.free
  refine hRR _ _ s4 H3 m4 (by rw [hC]; exact rf _) (back I4) n4' fC ?_ (fun x c e=>?_) (fun p hp=>?_) q
  ·rw [hC]; exact p8 (sy I.lt)
  ·obtain ⟨v,qc⟩:=I.cell x c e
   rw [hC]; exact yh (sy qc.lt)
  ·rw [hC]; exact yh (sy (zt (I.pin p hp).1))
 have loop:qq (model X.prog X.w) X.A (.compLoop (.ListComp elt [⟨tg,iter,ifs,0⟩] sc pos) 0 (.ref it) (.ref s.heap.objs.size) (compEnvC sc (capt X.env.cells sc.names []) h2.objs.size X.env)) (RR (.ref s.heap.objs.size) h2.objs.size)
   { s with heap:=h₁,toks:=s.toks+([]:List (Str × Value)).length }:=by
  obtain ⟨W,⟨m0,w0⟩,hW⟩:=hW _ hna
  refine compLoop_any (CI X' tn fp W) _ rfl ?_ m0 ⟨0,[],_,_,Ib,st1,fun b hb=>(hf1 b hb).1,w0⟩
  intro n s3 h3
  obtain ⟨i,ys,σ3,H3,I3,st3,fr3,w3⟩:=h3
  obtain ⟨ha,hstep⟩:=hW i n ys σ3 H3 w3
  rcases hstep with ⟨stop,q⟩ | ⟨go,step⟩
  ·refine thn (T.done X' rfl rfl rfl hc i [] s3 σ3 H3 _ I3 (fpX fr3) st3 stop) fun r s4 hh_=>?_
   obtain ⟨hr,I4⟩:=hh_
   subst hr
   exact fin I4 q
  ·refine thn (T.item X' rfl rfl rfl hc i [] s3 σ3 H3 _ I3 (fpX fr3) st3 go) fun r s4 hh_=>?_
   obtain ⟨u,hr,h4⟩:=hh_
   subst hr
   refine thn h4 fun _ s5 hh_=>?_
   obtain ⟨x,H5,I5,r5,y5,st5,fr5⟩:=hh_
   have I5':=I5.pinned (fpX fr5) (T.obj _ _ st5)
   refine wu (hg X' inC _ s5 σ3 H5 x u _ I5' r5 (step x H5 y5)) (fun _ s6 hh_=>?_) (fun _ _ z=>(show False from z).elim)
   obtain ⟨σ6,H6,I6,q6⟩:=hh_
   have again:∀ {σ7:St} {H7:Hp} {s7:Shared} {zs:List V},Inv X' ([]++ig fp s5.heap) σ7 H7 s7→(∃ m',m' < n∧W (i+1) m' zs σ7 H7) →
     ∃ m,m < n∧CI X' tn fp W m s7:=fun {σ7 H7 s7 zs} I7 ⟨m',hm,w7⟩=>by
    refine ⟨m',hm,i+1,zs,σ7,H7,I7.unpinned,T.keep _ _ _ st5 fun b hb o e=>(I7.pin (b,o) (zd _ (zd _ (eA hb e)))).1,fun b hb=>?_,w7⟩
    obtain ⟨o,e,d⟩:=T.obj _ _ st5 b hb
    exact (I7.pin (b,o) (zd _ (zd _ (eA hb e)))).2.1
   have tests:wpAny (model X'.prog X'.w) X'.A (forIn ifs true fun c r=>if r=true then do let ok ← isTrue c X'.env (eval c X'.env); pure (su ok) else pure (su r))
     (fun b s7=>∃ H7,Inv X' ([]++ig fp s5.heap) σ6 H7 s7∧if b=true then te σ6 H7 fun y H8=>H8 s.heap.objs.size=some (.lst ys)∧ys.length < y4∧∃ m',m' < n∧W (i+1) m' (ys++[y]) σ6 (upd H8 s.heap.objs.size (.lst (ys++[y])))
      else ∃ m',m' < n∧W (i+1) m' ys σ6 H7) X'.xe s6:=by
    rcases ht with ⟨e1,e2⟩ | ⟨c,e1,hcc⟩
    ·subst e1
     rw [e2] at q6
     exact zr ⟨H6,I6,q6⟩
    ·subst e1
     exact wpAny_tests_one (thn (hcc X' inC _ s6 σ6 H6 _ I6 q6) fun b s7 hh_=>(by obtain ⟨H7,I7,q7⟩:=hh_; exact (⟨H7,I7,q7⟩)))
   refine wu tests (fun b s7 hh_=>?_) (fun _ _ z=>(show False from z).elim)
   obtain ⟨H7,I7,q7⟩:=hh_
   cases b with
   | false =>
    rw [if_neg y9] at q7 ⊢
    exact again I7 q7
   | true =>
    rw [if_pos rfl] at q7 ⊢
    refine wu (he X' inC _ s7 σ6 H7 _ I7 q7) (fun y s8 hh_=>?_) (fun _ _ z=>(show False from z).elim)
    obtain ⟨yv,H8,I8,r8,ha8,hz8,q8⟩:=hh_
    refine wu (aW (X:=X') _ s8 σ6 H8 (.ref s.heap.objs.size) [yv] (.ref s.heap.objs.size) [y] (fun v H9=>H9=upd H8 s.heap.objs.size (.lst (ys++[yv]))) I8 rfl (.cons r8 .nil) ⟨_,ys,yv,rfl,rfl,ha8,hz8,rfl⟩) (fun _ s9 hh_=>?_) (fun _ _ z=>(show False from z).elim)
    obtain ⟨v9,H9,I9,r9,q9⟩:=hh_
    subst q9
    exact again I9 q8
 exact codeAny_compStart_list loop (T.self _ 0 _ _ _ st1 loop)
theorem comp_clos (I:Inv X pins σ H s) (S:d5 X sc):closureFor sc X.env=pure (capt X.env.cells sc.names []):=closure_capt fun y hy hk=>by
 obtain ⟨n,kd⟩:=y
 have hk:kd=ya.free:=hk
 exact I.ok.has n (S.free _ hy hk).2
theorem pe_comp {tg iter elt:Expr} {ifs:List Expr} {pos:Pos} {wi:TI} {g:TG} {tc:TT} {te:TE} (ow:List Nat) (hc:X.calm=true) (S:d5 X sc)
  (how:∀ (i:Nat) (x:Str),X.N[i]?=some x→sc.names.lookup x=some ya.local→i∈ow) (hi:PI X tg iter wi) (hg:∀ X',InC X sc X'→PG X' tg g) (ht:PIfs X sc ifs tc) (he:∀ X',InC X sc X'→PE X' elt te)
  (hs:∀ x,w5 iter X.env x=pure x:=by intro _; rfl):PE X (.ListComp elt [⟨tg,iter,ifs,0⟩] sc pos) (tComp wi g tc te ow):=by
 intro pins s σ H Q I h
 rw [eval_ListComp]
 refine wpAny_comprehension_free (use:=none) rfl hs (comp_clos I S) S.kind S.names (thn (hi pins s σ H _ I h) fun v s1 h1=>thn h1 fun itv s2 h2=>?_)
 refine zz fun P_ k_=>?_
 obtain ⟨it,fp,tn,J,H2,e,I2,T,st2,f2,hW⟩:=h2
 refine k_ ?_
 subst e
 refine iC (RR:=fun acc C=>compPost (model X.prog X.w) X.A X.xe none (EP X pins σ Q) acc C) I2 hc S how hg ht he T st2 f2 Q hW ?_ X.xe
 intro a C s' H' m hC I' hn fC n1 n2 n3 q
 refine ⟨m,hn,fun h' sb=>⟨.ref a,H', ?_,rfl,q⟩⟩
 exact I'.turned (t':=s'.toks) (fun b o hb e=>(sb.2 b hb).trans e) fC n1 (.inr (z5 I2.sz hC)) n2 n3
theorem ps_comp {tg iter elt:Expr} {ifs:List Expr} {pos spos py:Pos} {wi:TI} {g:TG} {tc:TT} {te:TE} {j:Nat} {y:Str} (ow:List Nat) (hc:X.calm=true) (hN:X.N.Nodup) (hj:X.N[j]?=some y) (hy:Loc X.env.scope y) (S:d5 X sc)
  (how:∀ (i:Nat) (x:Str),X.N[i]?=some x→sc.names.lookup x=some ya.local→i∈ow) (hi:PI X tg iter wi) (hg:∀ X',InC X sc X'→PG X' tg g) (ht:PIfs X sc ifs tc) (he:∀ X',InC X sc X'→PE X' elt te)
  (hsw:ug (.ListComp elt [⟨tg,iter,ifs,0⟩] sc pos) (some (.Name y py)) spos.line X.env=pure true)
  (hf:X.fn y=true∨X.env.scope.names.lookup y=some .local) (hs:∀ x,w5 iter X.env x=pure x:=by intro _; rfl) :
  PS X (.Assign [.Name y py] (.ListComp elt [⟨tg,iter,ifs,0⟩] sc pos) spos) (tAsg (tComp wi g tc te ow) (fA j)):=by
 intro pins s σ H D I h
 rw [exec_Assign_Name_used _ _ _ _ hsw]
 refine z6 (wpAny_standAt (z6 ?_))
 show wpAny _ _ (do let _ ← comprehension (.ListComp elt [⟨tg,iter,ifs,0⟩] sc pos) sc X.env _ (newList []) false (eval iter X.env) (some (assign (.Name y py) X.env))) _ _ s
 refine z6 (wu (wpAny_comprehension_free (use:=some (assign (.Name y py) X.env)) (Q:=fun _ s'=>SP X pins D .next s') rfl hs (comp_clos I S) S.kind S.names
  (thn (hi pins s σ H _ I h) fun v s1 h1=>thn h1 fun itv s2 h2=>?_)) (fun _ s' hq=>zr (zr hq)) fun _ _ e=>e)
 refine zz fun P_ k_=>?_
 obtain ⟨it,fp,tn,J,H2,e,I2,T,st2,f2,hW⟩:=h2
 refine k_ ?_
 subst e
 refine iC (RR:=fun acc C=>compPost (model X.prog X.w) X.A X.xe (some (assign (.Name y py) X.env)) (fun _ s'=>SP X pins D .next s') acc C) I2 hc S how hg ht he T st2 f2 (fun x H1=>fA j x σ H1 D.nx) hW ?_ X.xe
 intro a C s' H' m hC I' hn fC n1 n2 n3 q
 show wpAny _ _ (assign (.Name y py) X.env (.ref a)) _ _ _
 refine wpAny_assign_Name (store_ok2 I' hN hj hy (show RelV (.ref a) (.ref a) from rfl) (fun s3 I3 sb=>?_) hf)
 obtain ⟨z,sb,hz⟩:=sb
 have nz:C≠z:=by
  rcases hz with e | e
  ·rw [e]; exact n1
  ·exact wt (n2 _ _ e)
 refine ⟨m,hn.sameBut sb nz,fun h' sb'=>⟨_,H', ?_,q⟩⟩
 exact I3.turned (t':=s3.toks) (fun b o hb e=>(sb'.2 b hb).trans e) fC n1 (.inr (z5 I2.sz hC)) n2 n3
end
end L2
namespace Vi
open PySem (Str)
noncomputable abbrev Key:=Sum Int Str
inductive D where
 | non
 | bl (b:Bool)
 | int (i:Int)
 | str (x:Str)
 | tup (l:List D)
 | lst (l:List D)
 | dK (l:List (Key × D))
 | dT (l:List (List Key × D))
 | obj (c:Nat) (fs:List (Str × D))
set_option genInjectivity true in
inductive R (α:Type) where
 | ok (a:α)
 | ex (x:D)
 | bad
noncomputable def R.bind {α β:Type}:R α→(α→R β)→R β
 | .ok a,f=>f a
 | .ex x,_=>.ex x
 | .bad,_=>.bad
noncomputable instance:Monad R where
 pure:=R.ok
 bind:=R.bind
@[simp] theorem R.ok_bind {α β:Type} (a:α) (f:α→R β):(R.ok a >>= f)=f a:=rfl
@[simp] theorem R.ex_bind {α β:Type} (x:D) (f:α→R β):(R.ex x >>= f)=R.ex x:=rfl
@[simp] theorem R.bad_bind {α β:Type} (f:α→R β):((R.bad:R α) >>= f)=R.bad:=rfl
@[simp] theorem R.pure_eq {α:Type} (a:α):(pure a:R α)=R.ok a:=rfl
theorem okp {α β:Type} {a c:α} {b d:β} (h:R.ok (a,b)=R.ok (c,d)):a=c∧b=d:=by
 injection h with h
 exact qr.inj h
inductive BOk {α β:Type} (x:R α) (f:α→R β) (b:β):Prop
 | mk (a:α) (h1:x=.ok a) (h2:f a=.ok b)
theorem R.bind_ok {α β:Type} {x:R α} {f:α→R β} {b:β} (h:(x >>= f)=R.ok b):BOk x f b:=by
 cases x with
 | ok a=>exact ⟨a,rfl,h⟩
 | ex _=>injection h
 | bad=>injection h
mutual
noncomputable def D.imm:D→Bool
 | .non=>true
 | .bl _=>true
 | .int _=>true
 | .str _=>true
 | .tup l=>immL l
 | .lst _=>false
 | .dK _=>false
 | .dT _=>false
 | .obj _ _=>false
noncomputable def immL:List D→Bool
 | []=>true
 | d::r=>d.imm && immL r
end
theorem eB:∀ {l:List D},immL l=true↔∀ d∈l,d.imm=true:=by
 intro x_0
 induction x_0 with
 | nil =>
  simp [immL]
 | cons d r ih_ =>
  simp [immL,ih_]
noncomputable def D.flat:D→Bool
 | .lst l=>immL l
 | .dK l=>immL (l.map (·.2))
 | .dT l=>immL (l.map (·.2))
 | d=>d.imm
inductive Kd where
 | sto (is:List Nat)
 | old
 | bor
noncomputable def kdOf (d:D):Kd:=if d.flat=true then .sto [] else .bor
noncomputable def cA:D→Option Key
 | .int i=>some (.inl i)
 | _=>none
noncomputable def cH:List D→Option (List Key)
 | []=>some []
 | d::r=>match cA d,cH r with
  | some k,some ks=>some (k::ks)
  | _,_=>none
noncomputable def keyD:Key→D
 | .inl i=>.int i
 | .inr x=>.str x
noncomputable def valD {κ:Type} [DecidableEq κ] (l:List (κ × D)) (k:κ):Option D:=(l.find? fun kv=>decide (kv.1=k)).map (·.2)
noncomputable def putD {κ:Type} [DecidableEq κ] (l:List (κ × D)) (k:κ) (v:D):List (κ × D) :=
 if (l.any fun kv=>decide (kv.1=k))=true then l.map (fun kv=>if kv.1=k then (kv.1,v) else kv) else l++[(k,v)]
noncomputable def dk:D→D→Option (Option D)
 | .dK l,k=>match cA k with | some k=>some (valD l k) | none=>none
 | .dT l,.tup ks=>match cH ks with | some k=>some (valD l k) | none=>none
 | _,_=>none
noncomputable def gU:D→D→D→Option D
 | .dK l,k,v=>match cA k with | some k=>if l.length < 1000000 then some (.dK (putD l k v)) else none | none=>none
 | .dT l,.tup ks,v=>match cH ks with | some k=>if l.length < 1000000 then some (.dT (putD l k v)) else none | none=>none
 | _,_,_=>none
noncomputable def eqLs (f:D→D→Option Bool):List D→List D→Option Bool
 | [],[]=>some true
 | a::r,b::t=>match f a b,eqLs f r t with
  | some x,some y=>some (x && y)
  | _,_=>none
 | [],_::_=>some false
 | _::_,[]=>some false
noncomputable def eqN:Nat→D→D→Option Bool
 | 0,_,_=>none
 | _+1,.int a,.int b=>some (a == b)
 | n+1,.tup a,.tup b=>eqLs (eqN n) a b
 | n+1,.lst a,.lst b=>eqLs (eqN n) a b
 | _+1,_,_=>none
theorem eqN_3 (n:Nat) (a:Int) (b:Int):eqN (n+1) (.int a) (.int b)=some (a == b):=rfl
theorem eqN_5 (n:Nat) (a:List D) (b:List D):eqN (n+1) (.tup a) (.tup b)=eqLs (eqN n) a b:=rfl
theorem eqN_6 (n:Nat) (a:List D) (b:List D):eqN (n+1) (.lst a) (.lst b)=eqLs (eqN n) a b:=rfl
noncomputable def eqD (a b:D):Option Bool:=eqN 8 a b
inductive Op where
 | add | sub | mul | fdiv | mod | pow
inductive Cp where
 | eq | ne | lt | le | gt | ge | isN | notN | mem | nmem
noncomputable def i2 {α:Type} (f:Int→Int→R α):D→D→R α
 | .int a,.int b=>f a b
 | _,_=>.bad
noncomputable def addD:D→D→R D
 | .int a,.int b=>.ok (.int (a+b))
 | .lst a,.lst b=>if a.length+b.length≤1000000 then .ok (.lst (a++b)) else .bad
 | _,_=>.bad
noncomputable def opD:Op→D→D→R D
 | .add=>addD
 | .sub=>i2 fun a b=>.ok (.int (a - b))
 | .mul=>i2 fun a b=>if (-(2 ^ 64) < a∧a < 2 ^ 64)∨(-(2 ^ 64) < b∧b < 2 ^ 64) then .ok (.int (a * b)) else .bad
 | .fdiv=>i2 fun a b=>if 0 < b∧b < 1073741824 then .ok (.int (a / b)) else .bad
 | .mod=>i2 fun a b=>if 0 < b then .ok (.int (a % b)) else .bad
 | .pow=>i2 fun a b=>if 0≤b∧b≤1000000∧a.natAbs < 2 ^ 64 then .ok (.int (a ^ b.toNat)) else .bad
theorem opD_1 (a b:Int):opD .add (.int a) (.int b)=(.ok (.int (a+b))):=rfl
theorem opD_2 (a b:Int):opD .sub (.int a) (.int b)=(.ok (.int (a - b))):=rfl
theorem opD_3 (a b:Int):opD .mul (.int a) (.int b)=(if (-(2 ^ 64) < a∧a < 2 ^ 64)∨(-(2 ^ 64) < b∧b < 2 ^ 64) then .ok (.int (a * b)) else .bad):=rfl
theorem opD_5 (a b:Int):opD .mod (.int a) (.int b)=(if 0 < b then .ok (.int (a % b)) else .bad):=rfl
theorem opD_6 (a b:Int):opD .pow (.int a) (.int b)=(if 0≤b∧b≤1000000∧a.natAbs < 2 ^ 64 then .ok (.int (a ^ b.toNat)) else .bad):=rfl
theorem opD_7 (a b:List D):opD .add (.lst a) (.lst b)=(if a.length+b.length≤1000000 then .ok (.lst (a++b)) else .bad):=rfl
inductive Bi where
 | len | sorted | sum | any | all | list | tuple | dict | isInt | isBool | isTuple | isList | items | sortT | sortI
inductive Itk where
 | each | range | enum | keys | zip
inductive E where
 | nil
 | var (i:Nat)
 | int (i:Int)
 | bl (b:Bool)
 | non
 | str (x:Str)
 | glb (d:D)
 | bin (o:Op) (a b:E)
 | neg (a:E)
 | cmp (o:Cp) (a b:E)
 | not (a:E)
 | and (a b:E)
 | or (a b:E)
 | ife (c a b:E)
 | call (f:Nat) (as:List E)
 | make (f:Nat) (as:List E)
 | meth (f:Nat) (m:Str) (o:E) (as:List E)
 | bi (b:Bi) (as:List E)
 | get1 (o k:E)
 | get2 (o k x:E)
 | fld (o:E) (x:Str)
 | ix (a i:E)
 | dix (a i:E)
 | sl (a lo hi:E)
 | rev (a:E)
 | sl2 (a lo hi:E)
 | isB (a:E) (b:Bool)
 | tup (as:List E)
 | lst (as:List E)
 | dnew (t:Bool)
 | comp (e:E) (tg:List Nat) (one:Bool) (k:Itk) (it:List E) (c:E)
inductive S where
 | set (i:Nat) (e:E)
 | unp (is:List Nat) (e:E)
 | ret (e:E)
 | ifs (c:E) (a b:List S)
 | for (tg:List Nat) (one:Bool) (k:Itk) (it:List E) (b:List S)
 | whl (n:Nat) (c:E) (b:List S)
 | app (i:Nat) (e:E)
 | rvs (i:Nat)
 | clr (i:Nat)
 | pop (i j:Nat)
 | ext (i:Nat) (e:E)
 | eachRvs (t i:Nat)
 | eachClr (t i:Nat)
 | put (i:Nat) (k v:E)
 | fset (x:Str) (e:E)
 | expr (e:E)
 | wth (is:List Nat) (j:Nat) (e:E) (b:List S)
 | lnd (j:Nat) (b:List S)
 | raise
 | brk
 | cnt
 | pass
noncomputable abbrev Env:=List (Option (D × Bool))
set_option genInjectivity true in
inductive Out where
 | nx (ρ:Env)
 | bk (ρ:Env)
 | ct (ρ:Env)
 | rt (d:D)
 | ex (x:D)
 | bad
structure Tab where
 fn:Nat→List D→R D
 new:Nat→List D→R D
noncomputable def combK:Kd→Kd→Kd
 | .sto a,.sto b=>if a.all (fun i=>!b.contains i)=true then .sto (a++b) else .bor
 | _,_=>.bor
noncomputable def getV (ρ:Env) (i:Nat):R (D × Kd):=match ρ[i]? with
 | some (some (d,o))=>.ok (d,if d.imm=true then .sto [] else if o=true then .sto [i] else .old)
 | _=>.bad
noncomputable def dW (d:D):Kd→Kd
 | .old=>if d.imm=true then .sto [] else .old
 | _=>if d.imm=true then .sto [] else .bor
noncomputable def immK (d:D):Kd:=if d.imm=true then .sto [] else .bor
noncomputable def atomEq:D→D→Option Bool
 | .int a,.int b=>some (a == b)
 | _,_=>none
noncomputable def memL (x:D):List D→Option Bool
 | []=>some false
 | y::r=>match atomEq y x,memL x r with
  | some a,some b=>some (a || b)
  | _,_=>none
noncomputable def tupKs:List D→Option (List (List Key))
 | []=>some []
 | .tup l::r=>match cH l,tupKs r with
  | some k,some ks=>some (k::ks)
  | _,_=>none
 | _::_=>none
noncomputable def memT (x:D) (l:List D):Option Bool:=match x with
 | .tup t=>(match cH t,tupKs l with
  | some k,some ks=>some (ks.any fun j=>decide (j=k))
  | _,_=>none)
 | _=>none
noncomputable def memD (x c:D):Option Bool:=match c with
 | .lst l=>if (cA x).isSome=true then memL x l else memT x l
 | .tup l=>if (cA x).isSome=true then memL x l else none
 | _=>match dk c x with
  | some o=>some o.isSome
  | none=>none
noncomputable def isNon:D→Bool
 | .non=>true
 | _=>false
noncomputable def cmpD (o:Cp) (a b:D):R Bool:=match o with
 | .eq=>match eqD a b with | some k=>.ok k | none=>.bad
 | .ne=>match eqD a b with | some k=>.ok (!k) | none=>.bad
 | .lt=>i2 (fun a b=>.ok (decide (a < b))) a b
 | .le=>i2 (fun a b=>.ok (decide (a≤b))) a b
 | .gt=>i2 (fun a b=>.ok (decide (b < a))) a b
 | .ge=>i2 (fun a b=>.ok (decide (b≤a))) a b
 | .isN=>if isNon b=true then .ok (isNon a) else .bad
 | .notN=>if isNon b=true then .ok (!isNon a) else .bad
 | .mem=>match memD a b with | some k=>.ok k | none=>.bad
 | .nmem=>match memD a b with | some k=>.ok (!k) | none=>.bad
theorem iE (a:D) (b:D):cmpD .eq a b=(match eqD a b with | some k=>.ok k | none=>.bad):=rfl
theorem cmpD_2 (a:D) (b:D):cmpD .ne a b=(match eqD a b with | some k=>.ok (!k) | none=>.bad):=rfl
theorem cmpD_8 (a:D):cmpD .notN a .non=(.ok (!isNon a)):=rfl
theorem cmpD_9 (a:D) (b:D):cmpD .mem a b=(match memD a b with | some k=>.ok k | none=>.bad):=rfl
theorem cmpD_10 (a:D) (b:D):cmpD .nmem a b=(match memD a b with | some k=>.ok (!k) | none=>.bad):=rfl
noncomputable def truD:D→R Bool
 | .non=>.ok false
 | .bl b=>.ok b
 | .int i=>.ok (i != 0)
 | .lst l=>.ok (!l.isEmpty)
 | .tup l=>.ok (!l.isEmpty)
 | _=>.bad
noncomputable def atD (n:Nat) (i:Int):Option Nat:=if 0≤i then (if i < n then some i.toNat else none) else if -(n:Int)≤i then some (i+n).toNat else none
noncomputable def ixD (a i:D):R D:=match a,i with
 | .lst l,.int i=>match atD l.length i with
  | some k=>match l[k]? with | some d=>.ok d | none=>.bad
  | none=>.bad
 | .tup l,.int i=>match atD l.length i with
  | some k=>match l[k]? with | some d=>.ok d | none=>.bad
  | none=>.bad
 | _,_=>.bad
noncomputable def cutAt (n:Nat) (d:Nat):Option Int→Nat
 | none=>d
 | some i=>if i < 0 then (i+n).toNat else min i.toNat n
noncomputable def cutD {α:Type} (xs:List α) (lo hi:Option Int):List α:=(xs.drop (cutAt xs.length 0 lo)).take (cutAt xs.length xs.length hi - cutAt xs.length 0 lo)
noncomputable def aN (ρ:Env) (i:Nat) (d:D) (k:Kd):Option Env:=if i < ρ.length then (match k with
 | .sto is=>some ((is.foldl (fun t j=>t.set j none) ρ).set i (some (d,true)))
 | .old=>some (ρ.set i (some (d,false)))
 | .bor=>none) else none
noncomputable def bh (a:Int) (step:Int):Nat→List D
 | 0=>[]
 | n+1=>.int a::bh (a+step) step n
noncomputable def fY (k:Int):List D→List D
 | []=>[]
 | d::r=>.tup [.int k,d]::fY (k+1) r
noncomputable def zipD:List D→List D→List D
 | x::a,y::b=>.tup [x,y]::zipD a b
 | _,_=>[]
noncomputable def cI:Itk→List D→Option (List D)
 | .each,[.lst l]=>some l
 | .each,[.tup l]=>some l
 | .keys,[.dK l]=>some (l.map fun kv=>keyD kv.1)
 | .zip,[.lst a,.lst b]=>some (zipD a b)
 | .enum,[.lst l]=>if immL l=true then some (fY 0 l) else none
 | .range,[.int n]=>if -(2 ^ 62)≤n∧n < 2 ^ 62 then some (bh 0 1 n.toNat) else none
 | .range,[.int a,.int b]=>if -(2 ^ 62)≤a∧a < 2 ^ 62∧-(2 ^ 62)≤b∧b < 2 ^ 62 then some (bh a 1 (b - a).toNat) else none
 | .range,[.int a,.int b,.int c]=>if -(2 ^ 62)≤a∧a < 2 ^ 62∧-(2 ^ 62)≤b∧b < 2 ^ 62∧c=2 then some (bh a 2 ((b - a+1) / 2).toNat) else none
 | _,_=>none
theorem gl (l:List D):cI .each [.lst l]=(some l):=rfl
theorem jq (l:List D):cI .each [.tup l]=(some l):=rfl
theorem gj (l:List (Key × D)):cI .keys [.dK l]=(some (l.map fun kv=>keyD kv.1)):=rfl
theorem jn (l:List D):cI .enum [.lst l]=(if immL l=true then some (fY 0 l) else none):=rfl
theorem gk (n:Int):cI .range [.int n]=(if -(2 ^ 62)≤n∧n < 2 ^ 62 then some (bh 0 1 n.toNat) else none):=rfl
theorem jp (a:Int) (b:Int):cI .range [.int a,.int b]=(if -(2 ^ 62)≤a∧a < 2 ^ 62∧-(2 ^ 62)≤b∧b < 2 ^ 62 then some (bh a 1 (b - a).toNat) else none):=rfl
theorem jo (a:Int) (b:Int) (c:Int):cI .range [.int a,.int b,.int c]=(if -(2 ^ 62)≤a∧a < 2 ^ 62∧-(2 ^ 62)≤b∧b < 2 ^ 62∧c=2 then some (bh a 2 ((b - a+1) / 2).toNat) else none):=rfl
noncomputable def d4:Env→List Nat→List D→Option Env
 | ρ,i::tg,d::ds=>match aN ρ i d (dW d .old) with
  | some ρ'=>d4 ρ' tg ds
  | none=>none
 | ρ,_,_=>some ρ
noncomputable def cn (ρ:Env) (tg:List Nat) (one:Bool) (d:D) (k:Kd):Option Env:=match one,tg with
 | true,[i]=>aN ρ i d (dW d k)
 | false,tg=>match d with
  | .tup ds=>if ds.length=tg.length∧d.imm=true then some ((tg.zip ds).foldl (fun t p=>t.set p.1 (some (p.2,true))) ρ) else if ds.length=tg.length then d4 ρ tg ds else none
  | _=>none
 | _,_=>none
noncomputable def bZ (f:D→R (Option (D × Kd))):List D→R (List D × Bool)
 | []=>.ok ([],true)
 | d::r=>match f d with
  | .ok none=>bZ f r
  | .ok (some (y,.sto []))=>(match bZ f r with
   | .ok (ys,b)=>.ok (y::ys,b)
   | .ex x=>.ex x
   | .bad=>.bad)
  | .ok (some (y,.old))=>(match bZ f r with
   | .ok (ys,_)=>.ok (y::ys,false)
   | .ex x=>.ex x
   | .bad=>.bad)
  | .ok (some _)=>.bad
  | .ex x=>.ex x
  | .bad=>.bad
noncomputable def inComp (ρ:Env) (tg:List Nat):Env:=tg.foldl (fun t i=>t.set i none) (ρ.map fun e=>e.map fun p=>(p.1,false))
noncomputable def dq (ρ:Env) (tg:List Nat) (one:Bool) (c:Env→R Bool) (e:Env→R (D × Kd)) (d:D):R (Option (D × Kd)):=match cn (inComp ρ tg) tg one d .old with
 | none=>.bad
 | some ρ1=>match c ρ1 with
  | .ok true=>(match e ρ1 with
   | .ok y=>.ok (some y)
   | .ex x=>.ex x
   | .bad=>.bad)
  | .ok false=>.ok none
  | .ex x=>.ex x
  | .bad=>.bad
noncomputable def sumD:List D→R Int
 | []=>.ok 0
 | .int i::r=>match sumD r with | .ok n=>.ok (i+n) | .ex x=>.ex x | .bad=>.bad
 | _=>.bad
noncomputable def eI:List D→Option (List Bool)
 | []=>some []
 | .bl b::r=>(eI r).map (b :: ·)
 | _=>none
noncomputable def jr:List D→Option (List Int)
 | []=>some []
 | .int b::r=>(jr r).map (b :: ·)
 | _=>none
noncomputable def cW:List D→Option (List (Key × D))
 | []=>some []
 | .tup [k,v]::r=>match cA k,cW r with
  | some k,some ps=>some ((k,v)::ps)
  | _,_=>none
 | _=>none
noncomputable def gJ (l more:List (Key × D)):List (Key × D):=more.foldl (fun acc kv=>putD acc kv.1 kv.2) l
noncomputable def sortI (l:List Int):List Int:=l.mergeSort (fun a b=>decide (a≤b))
noncomputable def sortD (l:List D):Option (List D):=match jr l with
 | some ns=>if ns.length < 64 then some ((sortI ns).map D.int) else none
 | none=>none
noncomputable def headD:D→Option Int
 | .tup (.int i::_)=>some i
 | _=>none
noncomputable def hkD (d:D):Int:=(headD d).getD 0
noncomputable def insT (x:D):List D→List D
 | []=>[x]
 | y::r=>if hkD x≤hkD y then x::y::r else y::insT x r
noncomputable def sortT (l:List D):List D:=l.foldr insT []
noncomputable def itemsT (l:List (Key × D)):List D:=l.map fun kv=>.tup [keyD kv.1,kv.2]
noncomputable def tupsOk (l:List D):Prop:=(∀ d∈l,(headD d).isSome=true)∧immL l=true∧(l.map hkD).Nodup∧l.length < 64
noncomputable instance (l:List D):Decidable (tupsOk l):=by unfold tupsOk; infer_instance
noncomputable def bi1:Bi→D→R D
 | .len,.lst l=>.ok (.int l.length)
 | .len,.tup l=>.ok (.int l.length)
 | .len,.dK l=>.ok (.int l.length)
 | .sum,.lst l=>match sumD l with | .ok n=>.ok (.int n) | .ex x=>.ex x | .bad=>.bad
 | .any,.lst l=>match eI l with | some bs=>.ok (.bl (bs.any id)) | none=>.bad
 | .all,.lst l=>match eI l with | some bs=>.ok (.bl (bs.all id)) | none=>.bad
 | .list,.lst l=>if immL l=true then .ok (.lst l) else .bad
 | .list,.tup l=>if immL l=true then .ok (.lst l) else .bad
 | .tuple,.lst l=>if immL l=true then .ok (.tup l) else .bad
 | .dict,.lst l=>match cW l with | some ps=>if immL (ps.map (·.2))=true∧ps.length≤1000000 then .ok (.dK (gJ [] ps)) else .bad | none=>.bad
 | .sorted,.lst l=>match sortD l with | some m=>.ok (.lst m) | none=>.bad
 | .sorted,.dK l=>match sortD (l.map fun kv=>keyD kv.1) with | some m=>.ok (.lst m) | none=>.bad
 | .isInt,.int _=>.ok (.bl true)
 | .isInt,.bl _=>.ok (.bl true)
 | .isInt,.str _=>.ok (.bl false)
 | .isBool,.bl _=>.ok (.bl true)
 | .isBool,.int _=>.ok (.bl false)
 | .isBool,.str _=>.ok (.bl false)
 | .isTuple,.tup _=>.ok (.bl true)
 | .isList,.lst _=>.ok (.bl true)
 | .sortT,.lst l=>if tupsOk l then .ok (.lst (sortT l)) else .bad
 | .sortI,.dK l=>if tupsOk (itemsT l) then .ok (.lst (sortT (itemsT l))) else .bad
 | _,_=>.bad
noncomputable def biD (b:Bi):List D→R D
 | [d]=>bi1 b d
 | _=>.bad
theorem biD_1 (l:List D):biD .len [.lst l]=(.ok (.int l.length)):=rfl
theorem biD_2 (l:List D):biD .len [.tup l]=(.ok (.int l.length)):=rfl
theorem biD_3 (l:List (Key × D)):biD .len [.dK l]=(.ok (.int l.length)):=rfl
theorem biD_4 (l:List D):biD .sum [.lst l]=(match sumD l with | .ok n=>.ok (.int n) | .ex x=>.ex x | .bad=>.bad):=rfl
theorem biD_5 (l:List D):biD .any [.lst l]=(match eI l with | some bs=>.ok (.bl (bs.any id)) | none=>.bad):=rfl
theorem biD_6 (l:List D):biD .all [.lst l]=(match eI l with | some bs=>.ok (.bl (bs.all id)) | none=>.bad):=rfl
theorem gZ (l:List D):biD .list [.lst l]=(if immL l=true then .ok (.lst l) else .bad):=rfl
theorem gY (l:List D):biD .tuple [.lst l]=(if immL l=true then .ok (.tup l) else .bad):=rfl
theorem jK (l:List D):biD .dict [.lst l]=(match cW l with | some ps=>if immL (ps.map (·.2))=true∧ps.length≤1000000 then .ok (.dK (gJ [] ps)) else .bad | none=>.bad):=rfl
theorem g0 (l:List D):biD .sorted [.lst l]=(match sortD l with | some m=>.ok (.lst m) | none=>.bad):=rfl
theorem fP (l:List (Key × D)):biD .sorted [.dK l]=(match sortD (l.map fun kv=>keyD kv.1) with | some m=>.ok (.lst m) | none=>.bad):=rfl
theorem iM (u1:Int):biD .isInt [.int u1]=(.ok (.bl true)):=rfl
theorem iL (u1:Bool):biD .isInt [.bl u1]=(.ok (.bl true)):=rfl
theorem iK (u1:Str):biD .isInt [.str u1]=(.ok (.bl false)):=rfl
theorem iJ (u1:Bool):biD .isBool [.bl u1]=(.ok (.bl true)):=rfl
theorem iI (u1:Int):biD .isBool [.int u1]=(.ok (.bl false)):=rfl
theorem iH (u1:Str):biD .isBool [.str u1]=(.ok (.bl false)):=rfl
theorem iG (u1:List D):biD .isTuple [.tup u1]=(.ok (.bl true)):=rfl
theorem biD_20 (l:List D):biD .list [.tup l]=(if immL l=true then .ok (.lst l) else .bad):=rfl
theorem iF (u1:List D):biD .isList [.lst u1]=(.ok (.bl true)):=rfl
noncomputable def tru1 (r:R (D × Kd)):R Bool:=match r with
 | .ok (x,_)=>truD x
 | .ex x=>.ex x
 | .bad=>.bad
noncomputable def dispK:Kd→Kd
 | .sto is=>.sto is
 | _=>.bor
noncomputable def isNil:E→Bool
 | .nil=>true
 | _=>false
noncomputable def intO:D→Option (Option Int)
 | .int i=>some (some i)
 | _=>none
noncomputable def optI (e:E) (d:D):Option (Option Int):=match isNil e with
 | true=>some none
 | false=>intO d
noncomputable def slD (x:D) (lo hi:Option (Option Int)):R (D × Kd):=match x with
 | .lst l=>(match lo with
  | some lo=>(match hi with
   | some hi=>if immL l=true then .ok (.lst (cutD l lo hi),.sto []) else .bad
   | none=>.bad)
  | none=>.bad)
 | _=>.bad
theorem slD_1 (l:List D) (lo hi:Option Int):slD (.lst l) (some lo) (some hi)=(if immL l=true then .ok (.lst (cutD l lo hi),.sto []) else .bad):=rfl
noncomputable def pickD {α:Type} (l:List α) (lo hi:Option Int):List α:=(PySem.sliceRange (ny lo hi (some 2) l.length).1 (ny lo hi (some 2) l.length).2.1 (ny lo hi (some 2) l.length).2.2).filterMap (l[·]?)
noncomputable def sl2D (x:D) (lo hi:Option (Option Int)):R (D × Kd):=match x with
 | .lst l=>(match lo with
  | some lo=>(match hi with
   | some hi=>if immL l=true then .ok (.lst (pickD l lo hi),.sto []) else .bad
   | none=>.bad)
  | none=>.bad)
 | _=>.bad
noncomputable def ownL:Option (Option (D × Bool))→Option (List D)
 | some (some (d,true))=>(match d with | .lst l=>some l | _=>none)
 | _=>none
theorem ownL_1 (l:List D):ownL (some (some (.lst l,true)))=some l:=rfl
theorem dX {o:Option (Option (D × Bool))} {l:List D} (h:ownL o=some l):o=some (some (.lst l,true)):=by
 match o,h with
 | some (some (d,true)),h =>
  cases d with
  | lst m=>(injection h with h; subst h); rfl
  | _=>injection h
 | some (some (d,false)),h=>injection h
 | some none,h=>injection h
 | none,h=>injection h
noncomputable def ownO:Option (Option (D × Bool))→Option (Nat × List (Str × D))
 | some (some (d,true))=>(match d with | .obj c fs=>some (c,fs) | _=>none)
 | _=>none
theorem ownO_1 (c:Nat) (fs:List (Str × D)):ownO (some (some (.obj c fs,true)))=some (c,fs):=rfl
theorem ownO_some {o:Option (Option (D × Bool))} {c:Nat} {fs:List (Str × D)} (h:ownO o=some (c,fs)):o=some (some (.obj c fs,true)):=by
 match o,h with
 | some (some (d,true)),h =>
  cases d with
  | obj e m=>cases h; rfl
  | _=>injection h
 | some (some (d,false)),h=>injection h
 | some none,h=>injection h
 | none,h=>injection h
mutual
noncomputable def runE (M:Tab):E→Env→R (D × Kd)
 | .nil,_=>.ok (.non,.sto [])
 | .var i,ρ=>getV ρ i
 | .int i,_=>.ok (.int i,.sto [])
 | .bl b,_=>.ok (.bl b,.sto [])
 | .non,_=>.ok (.non,.sto [])
 | .str x,_=>.ok (.str x,.sto [])
 | .glb d,_=>.ok (d,.sto [])
 | .bin o a b,ρ=>do
  let (x,_) ← runE M a ρ
  let (y,_) ← runE M b ρ
  let z ← opD o x y
  pure (z,kdOf z)
 | .neg a,ρ=>do
  let (x,_) ← runE M a ρ
  match x with
  | .int i=>pure (.int (-i),.sto [])
  | _=>.bad
 | .cmp o a b,ρ=>do
  let (x,_) ← runE M a ρ
  let (y,_) ← runE M b ρ
  let z ← cmpD o x y
  pure (.bl z,.sto [])
 | .not a,ρ=>do
  let (x,_) ← runE M a ρ
  match x with
  | .bl c=>pure (.bl (!c),.sto [])
  | _=>.bad
 | .and a b,ρ=>do
  let (x,_) ← runE M a ρ
  match x with
  | .bl true=>runE M b ρ
  | .bl false=>pure (.bl false,.sto [])
  | _=>.bad
 | .or a b,ρ=>do
  let (x,_) ← runE M a ρ
  match x with
  | .bl true=>pure (.bl true,.sto [])
  | .bl false=>runE M b ρ
  | _=>.bad
 | .ife c a b,ρ=>do
  let (x,_) ← runE M c ρ
  let t ← truD x
  if t=true then runE M a ρ else runE M b ρ
 | .call f as,ρ=>do
  let (ds,_) ← cp M as ρ
  let r ← M.fn f ds
  pure (r,.sto [])
 | .make f as,ρ=>do
  let (ds,_) ← cp M as ρ
  let r ← M.new f ds
  pure (r,.sto [])
 | .meth f m o as,ρ=>do
  let (x,_) ← runE M o ρ
  let (ds,_) ← cp M as ρ
  match x with
  | .obj _ fs=>if fs.lookup m=none then (do
   let r ← M.fn f (x::ds)
   pure (r,.sto [])) else .bad
  | _=>.bad
 | .bi b as,ρ=>do
  let (ds,_) ← cp M as ρ
  let r ← biD b ds
  pure (r,kdOf r)
 | .get1 o k,ρ=>do
  let (x,_) ← runE M o ρ
  let (y,_) ← runE M k ρ
  match dk x y with
  | some r=>pure (r.getD .non,immK (r.getD .non))
  | none=>.bad
 | .get2 o k z,ρ=>do
  let (x,_) ← runE M o ρ
  let (y,_) ← runE M k ρ
  let (w,_) ← runE M z ρ
  match dk x y with
  | some r=>pure (r.getD w,immK (r.getD w))
  | none=>.bad
 | .fld o x,ρ=>do
  let (v,k) ← runE M o ρ
  match v with
  | .obj _ fs=>match fs.lookup x with
   | some d=>pure (d,dW d k)
   | none=>.bad
  | _=>.bad
 | .ix a i,ρ=>do
  let (x,k) ← runE M a ρ
  let (y,_) ← runE M i ρ
  let d ← ixD x y
  pure (d,dW d k)
 | .dix a i,ρ=>do
  let (x,_) ← runE M a ρ
  let (y,_) ← runE M i ρ
  match dk x y with
  | some (some d)=>pure (d,immK d)
  | _=>.bad
 | .sl a lo hi,ρ=>do
  let (x,_) ← runE M a ρ
  let (l,_) ← runE M lo ρ
  let (h,_) ← runE M hi ρ
  slD x (optI lo l) (optI hi h)
 | .sl2 a lo hi,ρ=>do
  let (x,_) ← runE M a ρ
  let (l,_) ← runE M lo ρ
  let (h,_) ← runE M hi ρ
  sl2D x (optI lo l) (optI hi h)
 | .rev a,ρ=>do
  let (x,_) ← runE M a ρ
  match x with
  | .lst l=>if immL l=true then pure (.lst l.reverse,.sto []) else .bad
  | .tup l=>if immL l=true then pure (.tup l.reverse,.sto []) else .bad
  | _=>.bad
 | .isB a b,ρ=>do
  let (x,_) ← runE M a ρ
  match x with
  | .int _=>pure (.bl false,.sto [])
  | _=>.bad
 | .tup as,ρ=>do
  let (ds,k) ← cp M as ρ
  if ds.length≤1000000 then pure (.tup ds,k) else .bad
 | .lst as,ρ=>do
  let (ds,k) ← cp M as ρ
  if ds.length≤1000000 then pure (.lst ds,dispK k) else .bad
 | .dnew t,_=>.ok (if t=true then .dT [] else .dK [],.sto [])
 | .comp e tg one ik it c,ρ=>do
  let (xs,_) ← runI M ik it ρ
  if 1000000 < xs.length then .bad else do
   let (ys,b) ← bZ (dq ρ tg one (fun ρ1=>tru1 (runE M c ρ1)) (fun ρ1=>runE M e ρ1)) xs
   pure (.lst ys,if b=true then .sto [] else .bor)
noncomputable def cp (M:Tab):List E→Env→R (List D × Kd)
 | [],_=>.ok ([],.sto [])
 | a::r,ρ=>do
  let (d,k) ← runE M a ρ
  let (ds,k') ← cp M r ρ
  pure (d::ds,combK k k')
noncomputable def runI (M:Tab) (ik:Itk):List E→Env→R (List D × Kd)
 | [],_=>.bad
 | a::r,ρ=>do
  let (d,k) ← runE M a ρ
  let (ds,k') ← cp M r ρ
  match cI ik (d::ds) with
  | none=>.bad
  | some xs=>pure (xs,match ik with | .each=>k | .range=>.sto [] | .enum=>k | .keys=>k | .zip=>combK k k')
end
noncomputable def Out.bind (o:Out) (f:Env→Out):Out:=match o with
 | .nx ρ=>f ρ
 | .bk ρ=>.bk ρ
 | .ct ρ=>.ct ρ
 | .rt d=>.rt d
 | .ex x=>.ex x
 | .bad=>.bad
noncomputable def ofR {α:Type} (r:R α) (f:α→Out):Out:=match r with
 | .ok a=>f a
 | .ex x=>.ex x
 | .bad=>.bad
noncomputable def ofO (r:Option Env):Out:=match r with
 | some ρ=>.nx ρ
 | none=>.bad
noncomputable def forL (f:Env→D→Out):List D→Env→Out
 | [],ρ=>.nx ρ
 | d::r,ρ=>match f ρ d with
  | .nx ρ'=>forL f r ρ'
  | .ct ρ'=>forL f r ρ'
  | .bk ρ'=>.nx ρ'
  | .rt x=>.rt x
  | .ex x=>.ex x
  | .bad=>.bad
noncomputable def whlL (c:Env→R Bool) (f:Env→Out):Nat→Env→Out
 | 0,_=>.bad
 | n+1,ρ=>match c ρ with
  | .ok true=>match f ρ with
   | .nx ρ'=>whlL c f n ρ'
   | .ct ρ'=>whlL c f n ρ'
   | .bk ρ'=>.nx ρ'
   | .rt x=>.rt x
   | .ex x=>.ex x
   | .bad=>.bad
  | .ok false=>.nx ρ
  | .ex x=>.ex x
  | .bad=>.bad
mutual
noncomputable def asg:S→List Nat
 | .set i _=>[i]
 | .unp is _=>is
 | .ifs _ a b=>asgs a++asgs b
 | .for tg _ _ _ b=>tg++asgs b
 | .pop i _=>[i]
 | .eachRvs t _=>[t]
 | .eachClr t _=>[t]
 | .whl _ _ b=>asgs b
 | .wth is _ _ b=>is++asgs b
 | .lnd _ b=>asgs b
 | _=>[]
noncomputable def asgs:List S→List Nat
 | []=>[]
 | s::r=>asg s++asgs r
end
noncomputable def noBor:Kd→Bool
 | .bor=>false
 | _=>true
noncomputable def ao (ρ:Env) (k:Kd):Env:=match k with
 | .sto is=>ρ.mapIdx fun j e=>if is.contains j=true then (match e with | some (d,_)=>some (d,false) | none=>none) else e
 | _=>ρ
noncomputable def rest (ρ ρl ρ':Env) (ws:List Nat):Env:=ρ'.mapIdx fun j e =>
 if ws.contains j=true then (match e with
  | some (d,true)=>some (d,true)
  | some (d,false)=>if d.imm=true then some (d,true) else none
  | none=>none)
 else (match ρl[j]? with
  | some (some (_,false))=>(match ρ[j]? with | some x=>x | none=>none)
  | _=>(match e with
   | some (d,true)=>some (d,true)
   | _=>none))
noncomputable def fS (ρ ρl:Env) (ws:List Nat):Out→Out
 | .nx ρ'=>.nx (rest ρ ρl ρ' ws)
 | .bk ρ'=>.bk (rest ρ ρl ρ' ws)
 | .ct ρ'=>.ct (rest ρ ρl ρ' ws)
 | .rt d=>.rt d
 | .ex x=>.ex x
 | .bad=>.bad
noncomputable def retK (d:D):Kd→Out
 | .sto _=>.rt d
 | .old=>.bad
 | .bor=>.bad
noncomputable def fX:List D→Option (List (List D))
 | []=>some []
 | .lst l::r=>(match fX r with
  | some ls=>if immL l=true then some (l::ls) else none
  | none=>none)
 | _::_=>none
noncomputable def seqD:D→Kd→Option (List D)
 | .tup l,_=>some l
 | .lst l,.sto []=>some l
 | _,_=>none
noncomputable def bC (tg:List Nat) (one:Bool) (f:Env→Out) (ρ:Env) (d:D):Out:=match cn ρ tg one d .old with
 | none=>.bad
 | some ρ1=>f ρ1
mutual
noncomputable def runS (M:Tab):S→Env→Out
 | .set i e,ρ=>ofR (runE M e ρ) fun (d,k)=>ofO (aN ρ i d k)
 | .unp is e,ρ=>ofR (runE M e ρ) fun (d,k)=>match d,k with
  | .tup ds,.sto js=>if ds.length=is.length∧is.Nodup∧(∀ i∈is,i < ρ.length) then .nx ((is.zip ds).foldl (fun t p=>t.set p.1 (some (p.2,true))) (js.foldl (fun t j=>t.set j none) ρ)) else .bad
  | _,_=>.bad
 | .ret e,ρ=>ofR (runE M e ρ) fun (d,k)=>retK d k
 | .ifs c a b,ρ=>ofR (runE M c ρ) fun (x,_)=>ofR (truD x) fun t=>if t=true then al M a ρ else al M b ρ
 | .for tg one ik it b,ρ=>ofR (runI M ik it ρ) fun (xs,k)=>if noBor k=false then .bad else fS ρ (ao ρ k) (tg++asgs b) (forL (bC tg one fun ρ1=>al M b ρ1) xs (ao ρ k))
 | .whl n c b,ρ=>whlL (fun ρ'=>tru1 (runE M c ρ')) (fun ρ'=>al M b ρ') n ρ
 | .app i e,ρ=>ofR (runE M e ρ) fun (d,k)=>match ownL ρ[i]?,k with
  | some l,.sto js=>if l.length < 1000000∧i∉js then .nx ((js.foldl (fun t j=>t.set j none) ρ).set i (some (.lst (l++[d]),true))) else .bad
  | _,_=>.bad
 | .rvs i,ρ=>match ownL ρ[i]? with
  | some l=>if immL l=true then .nx (ρ.set i (some (.lst l.reverse,true))) else .bad
  | none=>.bad
 | .clr i,ρ=>match ownL ρ[i]? with
  | some _=>.nx (ρ.set i (some (.lst [],true)))
  | none=>.bad
 | .pop i j,ρ=>match ownL ρ[j]? with
  | some l=>(match l.getLast? with
   | some d=>if d.imm=true∧i≠j∧i < ρ.length then .nx ((ρ.set j (some (.lst l.dropLast,true))).set i (some (d,true))) else .bad
   | none=>.bad)
  | none=>.bad
 | .ext i e,ρ=>ofR (runE M e ρ) fun (d,k)=>match ownL ρ[i]?,seqD d k with
  | some l,some m=>if immL m=true∧l.length+m.length≤1000000 then .nx (ρ.set i (some (.lst (l++m),true))) else .bad
  | _,_=>.bad
 | .eachRvs t i,ρ=>match ownL ρ[i]? with
  | some l=>(match fX l with
   | some ls=>if t≠i∧t < ρ.length then .nx ((ρ.set i (some (.lst (ls.map fun l=>.lst l.reverse),true))).set t none) else .bad
   | none=>.bad)
  | none=>.bad
 | .eachClr t i,ρ=>match ownL ρ[i]? with
  | some l=>(match fX l with
   | some ls=>if t≠i∧t < ρ.length then .nx ((ρ.set i (some (.lst (ls.map fun _=>.lst []),true))).set t none) else .bad
   | none=>.bad)
  | none=>.bad
 | .put i k v,ρ=>ofR (runE M v ρ) fun (y,_)=>ofR (runE M k ρ) fun (x,_)=>match ρ[i]? with
  | some (some (d,true))=>if y.imm=true then (match gU d x y with
   | some d'=>.nx (ρ.set i (some (d',true)))
   | none=>.bad) else .bad
  | _=>.bad
 | .fset x e,ρ=>ofR (runE M e ρ) fun (d,k)=>match ownO ρ[(0:Nat)]?,k with
  | some (c,fs),.sto js=>if fs.length < 900∧fs.lookup x=none∧0∉js then .nx ((js.foldl (fun t j=>t.set j none) ρ).set 0 (some (.obj c (fs++[(x,d)]),true))) else .bad
  | _,_=>.bad
 | .expr e,ρ=>ofR (runE M e ρ) fun _=>.nx ρ
 | .lnd j b,ρ=>fS ρ (ao ρ (.sto [j])) (asgs b) (al M b (ao ρ (.sto [j])))
 | .wth is j e b,ρ=>match runE M e (ao ρ (.sto [j])) with
  | .ok (d,.old)=>(match cn (ao ρ (.sto [j])) is false d .old with
   | some ρ2=>fS ρ (ao ρ (.sto [j])) (is++asgs b) (al M b ρ2)
   | none=>.bad)
  | _=>.bad
 | .raise,_=>.bad
 | .brk,ρ=>.bk ρ
 | .cnt,ρ=>.ct ρ
 | .pass,ρ=>.nx ρ
noncomputable def al (M:Tab):List S→Env→Out
 | [],ρ=>.nx ρ
 | s::r,ρ=>(runS M s ρ).bind fun ρ'=>al M r ρ'
end
theorem rE_nil {M:Tab} {ρ:Env}:runE M (.nil) ρ=(.ok (.non,.sto [])):=rfl
theorem bF {M:Tab} {i} {ρ:Env}:runE M (.var i) ρ=(getV ρ i):=rfl
theorem ie {M:Tab} {i} {ρ:Env}:runE M (.int i) ρ=(.ok (.int i,.sto [])):=rfl
theorem fT {M:Tab} {b} {ρ:Env}:runE M (.bl b) ρ=(.ok (.bl b,.sto [])):=rfl
theorem rE_non {M:Tab} {ρ:Env}:runE M (.non) ρ=(.ok (.non,.sto [])):=rfl
theorem rE_bin {M:Tab} {o a b} {ρ:Env}:runE M (.bin o a b) ρ=(do
  let (x,_) ← runE M a ρ
  let (y,_) ← runE M b ρ
  let z ← opD o x y
  pure (z,kdOf z)):=rfl
theorem rE_cmp {M:Tab} {o a b} {ρ:Env}:runE M (.cmp o a b) ρ=(do
  let (x,_) ← runE M a ρ
  let (y,_) ← runE M b ρ
  let z ← cmpD o x y
  pure (.bl z,.sto [])):=rfl
theorem rE_not {M:Tab} {a} {ρ:Env}:runE M (.not a) ρ=(do
  let (x,_) ← runE M a ρ
  match x with
  | .bl c=>pure (.bl (!c),.sto [])
  | _=>.bad):=rfl
theorem rE_and {M:Tab} {a b} {ρ:Env}:runE M (.and a b) ρ=(do
  let (x,_) ← runE M a ρ
  match x with
  | .bl true=>runE M b ρ
  | .bl false=>pure (.bl false,.sto [])
  | _=>.bad):=rfl
theorem rE_or {M:Tab} {a b} {ρ:Env}:runE M (.or a b) ρ=(do
  let (x,_) ← runE M a ρ
  match x with
  | .bl true=>pure (.bl true,.sto [])
  | .bl false=>runE M b ρ
  | _=>.bad):=rfl
theorem rE_call {M:Tab} {f as} {ρ:Env}:runE M (.call f as) ρ=(do
  let (ds,_) ← cp M as ρ
  let r ← M.fn f ds
  pure (r,.sto [])):=rfl
theorem rE_make {M:Tab} {f as} {ρ:Env}:runE M (.make f as) ρ=(do
  let (ds,_) ← cp M as ρ
  let r ← M.new f ds
  pure (r,.sto [])):=rfl
theorem rE_meth {M:Tab} {f m o as} {ρ:Env}:runE M (.meth f m o as) ρ=(do
  let (x,_) ← runE M o ρ
  let (ds,_) ← cp M as ρ
  match x with
  | .obj _ fs=>if fs.lookup m=none then (do
   let r ← M.fn f (x::ds)
   pure (r,.sto [])) else .bad
  | _=>.bad):=rfl
theorem rE_bi {M:Tab} {b as} {ρ:Env}:runE M (.bi b as) ρ=(do
  let (ds,_) ← cp M as ρ
  let r ← biD b ds
  pure (r,kdOf r)):=rfl
theorem rE_get1 {M:Tab} {o k} {ρ:Env}:runE M (.get1 o k) ρ=(do
  let (x,_) ← runE M o ρ
  let (y,_) ← runE M k ρ
  match dk x y with
  | some r=>pure (r.getD .non,immK (r.getD .non))
  | none=>.bad):=rfl
theorem rE_get2 {M:Tab} {o k z} {ρ:Env}:runE M (.get2 o k z) ρ=(do
  let (x,_) ← runE M o ρ
  let (y,_) ← runE M k ρ
  let (w,_) ← runE M z ρ
  match dk x y with
  | some r=>pure (r.getD w,immK (r.getD w))
  | none=>.bad):=rfl
theorem rE_fld {M:Tab} {o x} {ρ:Env}:runE M (.fld o x) ρ=(do
  let (v,k) ← runE M o ρ
  match v with
  | .obj _ fs=>match fs.lookup x with
   | some d=>pure (d,dW d k)
   | none=>.bad
  | _=>.bad):=rfl
theorem rE_ix {M:Tab} {a i} {ρ:Env}:runE M (.ix a i) ρ=(do
  let (x,k) ← runE M a ρ
  let (y,_) ← runE M i ρ
  let d ← ixD x y
  pure (d,dW d k)):=rfl
theorem rE_dix {M:Tab} {a i} {ρ:Env}:runE M (.dix a i) ρ=(do
  let (x,_) ← runE M a ρ
  let (y,_) ← runE M i ρ
  match dk x y with
  | some (some d)=>pure (d,immK d)
  | _=>.bad):=rfl
theorem rE_sl {M:Tab} {a lo hi} {ρ:Env}:runE M (.sl a lo hi) ρ=(do
  let (x,_) ← runE M a ρ
  let (l,_) ← runE M lo ρ
  let (h,_) ← runE M hi ρ
  slD x (optI lo l) (optI hi h)):=rfl
theorem ic {M:Tab} {a} {ρ:Env}:runE M (.rev a) ρ=(do
  let (x,_) ← runE M a ρ
  match x with
  | .lst l=>if immL l=true then pure (.lst l.reverse,.sto []) else .bad
  | .tup l=>if immL l=true then pure (.tup l.reverse,.sto []) else .bad
  | _=>.bad):=rfl
theorem rE_isB {M:Tab} {a b} {ρ:Env}:runE M (.isB a b) ρ=(do
  let (x,_) ← runE M a ρ
  match x with
  | .int _=>pure (.bl false,.sto [])
  | _=>.bad):=rfl
theorem rE_tup {M:Tab} {as} {ρ:Env}:runE M (.tup as) ρ=(do
  let (ds,k) ← cp M as ρ
  if ds.length≤1000000 then pure (.tup ds,k) else .bad):=rfl
theorem rE_lst {M:Tab} {as} {ρ:Env}:runE M (.lst as) ρ=(do
  let (ds,k) ← cp M as ρ
  if ds.length≤1000000 then pure (.lst ds,dispK k) else .bad):=rfl
theorem rE_dnew {M:Tab} {t} {ρ:Env}:runE M (.dnew t) ρ=(.ok (if t=true then .dT [] else .dK [],.sto [])):=rfl
theorem jc {M:Tab} {e tg one ik it c} {ρ:Env}:runE M (.comp e tg one ik it c) ρ=(do
  let (xs,_) ← runI M ik it ρ
  if 1000000 < xs.length then .bad else do
   let (ys,b) ← bZ (dq ρ tg one (fun ρ1=>tru1 (runE M c ρ1)) (fun ρ1=>runE M e ρ1)) xs
   pure (.lst ys,if b=true then .sto [] else .bor)):=rfl
theorem eV {M:Tab} {ρ:Env}:cp M [] ρ=(.ok ([],.sto [])):=rfl
theorem dS {M:Tab} {a r} {ρ:Env}:cp M (a::r) ρ=(do
  let (d,k) ← runE M a ρ
  let (ds,k') ← cp M r ρ
  pure (d::ds,combK k k')):=rfl
theorem rS_set {M:Tab} {i e} {ρ:Env}:runS M (.set i e) ρ=(ofR (runE M e ρ) fun (d,k)=>ofO (aN ρ i d k)):=rfl
theorem rS_ret {M:Tab} {e} {ρ:Env}:runS M (.ret e) ρ=(ofR (runE M e ρ) fun (d,k)=>retK d k):=rfl
theorem rS_ifs {M:Tab} {c a b} {ρ:Env}:runS M (.ifs c a b) ρ=(ofR (runE M c ρ) fun (x,_)=>ofR (truD x) fun t=>if t=true then al M a ρ else al M b ρ):=rfl
theorem rS_for {M:Tab} {tg one ik it b} {ρ:Env}:runS M (.for tg one ik it b) ρ=(ofR (runI M ik it ρ) fun (xs,k)=>if noBor k=false then .bad else fS ρ (ao ρ k) (tg++asgs b) (forL (bC tg one fun ρ1=>al M b ρ1) xs (ao ρ k))):=rfl
theorem rS_whl {M:Tab} {n c b} {ρ:Env}:runS M (.whl n c b) ρ=(whlL (fun ρ'=>tru1 (runE M c ρ')) (fun ρ'=>al M b ρ') n ρ):=rfl
theorem rS_app {M:Tab} {i e} {ρ:Env}:runS M (.app i e) ρ=(ofR (runE M e ρ) fun (d,k)=>match ownL ρ[i]?,k with
  | some l,.sto js=>if l.length < 1000000∧i∉js then .nx ((js.foldl (fun t j=>t.set j none) ρ).set i (some (.lst (l++[d]),true))) else .bad
  | _,_=>.bad):=rfl
theorem rS_pop {M:Tab} {i j} {ρ:Env}:runS M (.pop i j) ρ=(match ownL ρ[j]? with
  | some l=>(match l.getLast? with
   | some d=>if d.imm=true∧i≠j∧i < ρ.length then .nx ((ρ.set j (some (.lst l.dropLast,true))).set i (some (d,true))) else .bad
   | none=>.bad)
  | none=>.bad):=rfl
theorem rS_ext {M:Tab} {i e} {ρ:Env}:runS M (.ext i e) ρ=(ofR (runE M e ρ) fun (d,k)=>match ownL ρ[i]?,seqD d k with
  | some l,some m=>if immL m=true∧l.length+m.length≤1000000 then .nx (ρ.set i (some (.lst (l++m),true))) else .bad
  | _,_=>.bad):=rfl
theorem ia {M:Tab} {t i} {ρ:Env}:runS M (.eachRvs t i) ρ=(match ownL ρ[i]? with
  | some l=>(match fX l with
   | some ls=>if t≠i∧t < ρ.length then .nx ((ρ.set i (some (.lst (ls.map fun l=>.lst l.reverse),true))).set t none) else .bad
   | none=>.bad)
  | none=>.bad):=rfl
theorem rS_lnd {M:Tab} {j b} {ρ:Env}:runS M (.lnd j b) ρ=fS ρ (ao ρ (.sto [j])) (asgs b) (al M b (ao ρ (.sto [j]))):=rfl
theorem rS_wth {M:Tab} {is j e b} {ρ:Env}:runS M (.wth is j e b) ρ=(match runE M e (ao ρ (.sto [j])) with
  | .ok (d,.old)=>(match cn (ao ρ (.sto [j])) is false d .old with
   | some ρ2=>fS ρ (ao ρ (.sto [j])) (is++asgs b) (al M b ρ2)
   | none=>.bad)
  | _=>.bad):=rfl
theorem ib {M:Tab} {t i} {ρ:Env}:runS M (.eachClr t i) ρ=(match ownL ρ[i]? with
  | some l=>(match fX l with
   | some ls=>if t≠i∧t < ρ.length then .nx ((ρ.set i (some (.lst (ls.map fun _=>.lst []),true))).set t none) else .bad
   | none=>.bad)
  | none=>.bad):=rfl
theorem rS_put {M:Tab} {i k v} {ρ:Env}:runS M (.put i k v) ρ=(ofR (runE M v ρ) fun (y,_)=>ofR (runE M k ρ) fun (x,_)=>match ρ[i]? with
  | some (some (d,true))=>if y.imm=true then (match gU d x y with
   | some d'=>.nx (ρ.set i (some (d',true)))
   | none=>.bad) else .bad
  | _=>.bad):=rfl
theorem rS_fset {M:Tab} {x e} {ρ:Env}:runS M (.fset x e) ρ=(ofR (runE M e ρ) fun (d,k)=>match ownO ρ[(0:Nat)]?,k with
  | some (c,fs),.sto js=>if fs.length < 900∧fs.lookup x=none∧0∉js then .nx ((js.foldl (fun t j=>t.set j none) ρ).set 0 (some (.obj c (fs++[(x,d)]),true))) else .bad
  | _,_=>.bad):=rfl
theorem rS_expr {M:Tab} {e} {ρ:Env}:runS M (.expr e) ρ=(ofR (runE M e ρ) fun _=>.nx ρ):=rfl
theorem rS_raise {M:Tab} {ρ:Env}:runS M (.raise) ρ=(.bad):=rfl
theorem rSs_0 {M:Tab} {ρ:Env}:al M [] ρ=(.nx ρ):=rfl
theorem jb {M:Tab} {s r} {ρ:Env}:al M (s::r) ρ=((runS M s ρ).bind fun ρ'=>al M r ρ'):=rfl
theorem rI_1 {M:Tab} {ik:Itk} {a r} {ρ:Env}:runI M ik (a::r) ρ=(do
  let (d,k) ← runE M a ρ
  let (ds,k') ← cp M r ρ
  match cI ik (d::ds) with
  | none=>.bad
  | some xs=>pure (xs,match ik with | .each=>k | .range=>.sto [] | .enum=>k | .keys=>k | .zip=>combK k k')):=rfl
structure Fn where
 par:Nat
 slots:Nat
 body:List S
noncomputable def Fn.run (f:Fn) (M:Tab) (ds:List D):R D:=if ds.length=f.par∧f.par≤f.slots then (match al M f.body (ds.map (fun d=>some (d,false))++yt (f.slots - f.par) none) with
 | .rt d=>.ok d
 | .nx _=>.ok .non
 | .ex x=>.ex x
 | _=>.bad) else .bad
noncomputable def Fn.init (f:Fn) (M:Tab) (c:Nat) (ds:List D):R D:=if ds.length+1=f.par∧f.par≤f.slots then (match al M f.body (some (.obj c [],true)::(ds.map (fun d=>some (d,false))++yt (f.slots - f.par) none)) with
 | .nx ρ=>(match ρ[(0:Nat)]? with | some (some (d,true))=>.ok d | _=>.bad)
 | .ex x=>.ex x
 | _=>.bad) else .bad
end Vi
namespace Vi
open PySem L2
inductive TC (H:Hp) (Q:List V→List Addr→Prop) (v:V) (fp:List Addr):Prop
 | mk (a:Addr) (vs:List V) (e:v=.ref a) (ha:H a=some (.tup vs)) (r:Q vs fp)
inductive SC (H:Hp) (Q:List V→List Addr→Prop) (v:V) (fp:List Addr):Prop
 | mk (a:Addr) (vs:List V) (f:List Addr) (e:v=.ref a) (ef:fp=a::f) (r:Q vs f) (h:H a=some (.lst vs)∨∃ o,H a=some (.frz o (.lst vs)))
inductive MC (H:Hp) (ks:List Key) (Q:List V→List Addr→Prop) (v:V) (fp:List Addr):Prop
 | mk (a:Addr) (f:List Addr) (kvs:List (Key × V)) (e:v=.ref a) (ef:fp=a::f) (ha:Rd H a (.dK kvs)) (hk:ks=kvs.map (·.1)) (r:Q (kvs.map (·.2)) f)
inductive UC (H:Hp) (ks:List (List Key)) (Q:List V→List Addr→Prop) (v:V) (fp:List Addr):Prop
 | mk (a:Addr) (f:List Addr) (kvs:List (List Key × V)) (e:v=.ref a) (ef:fp=a::f) (ha:H a=some (.dT kvs)) (hk:ks=kvs.map (·.1)) (r:Q (kvs.map (·.2)) f)
inductive OC (H:Hp) (C:Addr) (ks:List Str) (Q:List V→List Addr→Prop) (v:V) (fp:List Addr):Prop
 | mk (a dx:Addr) (f:List Addr) (gs:List (Str × V)) (e:v=.ref a) (ef:fp=a::dx::f) (ha:H a=some (.ins C dx gs)) (hd:H dx=some (.own a)) (hn:ks=gs.map (·.1)) (r:Q (gs.map (·.2)) f)
inductive LC (P:V→List Addr→Prop) (Q:List V→List Addr→Prop) (vs:List V) (fp:List Addr):Prop
 | mk (v:V) (vr:List V) (f g:List Addr) (e:vs=v::vr) (ef:fp=f++g) (h1:P v f) (h2:Q vr g)
mutual
noncomputable def Rep (cl:Nat→Addr) (H:Hp):D→V→List Addr→Prop
 | .non,v,fp=>v=.non∧fp=[]
 | .bl b,v,fp=>v=.bl b∧fp=[]
 | .int i,v,fp=>v=.int i∧fp=[]
 | .str x,v,fp=>v=.str x∧fp=[]
 | .tup l,v,fp=>TC H (RepL cl H l) v fp
 | .lst l,v,fp=>SC H (RepL cl H l) v fp
 | .dK l,v,fp=>MC H (l.map (·.1)) (RepM cl H l) v fp
 | .dT l,v,fp=>UC H (l.map (·.1)) (RepT cl H l) v fp
 | .obj c fs,v,fp=>OC H (cl c) (fs.map (·.1)) (RepF cl H fs) v fp
noncomputable def RepL (cl:Nat→Addr) (H:Hp):List D→List V→List Addr→Prop
 | [],vs,fp=>vs=[]∧fp=[]
 | d::r,vs,fp=>LC (Rep cl H d) (RepL cl H r) vs fp
noncomputable def RepM (cl:Nat→Addr) (H:Hp):List (Key × D)→List V→List Addr→Prop
 | [],vs,fp=>vs=[]∧fp=[]
 | (_,d)::r,vs,fp=>LC (Rep cl H d) (RepM cl H r) vs fp
noncomputable def RepT (cl:Nat→Addr) (H:Hp):List (List Key × D)→List V→List Addr→Prop
 | [],vs,fp=>vs=[]∧fp=[]
 | (_,d)::r,vs,fp=>LC (Rep cl H d) (RepT cl H r) vs fp
noncomputable def RepF (cl:Nat→Addr) (H:Hp):List (Str × D)→List V→List Addr→Prop
 | [],vs,fp=>vs=[]∧fp=[]
 | (_,d)::r,vs,fp=>LC (Rep cl H d) (RepF cl H r) vs fp
end
structure Keep (fp:List Addr) (H H':Hp):Prop where
 at_:∀ a∈fp,H' a=H a
 tup:∀ a vs,H a=some (.tup vs)→H' a=some (.tup vs)
noncomputable def Like (x y:Option HO):Prop:=y=x∨∃ o kvs,(x=some (.dK kvs)∧y=some (.frz o (.dK kvs)))∨(x=some (.frz o (.dK kvs))∧y=some (.dK kvs))
theorem Like.keep {x y:Option HO} {u:HO} (h:Like x y) (hx:x=some u) (n1:∀ kvs,u ≠ .dK kvs) (n2:∀ o v,u ≠ .frz o v):y=some u:=by
 rcases h with h | ⟨o,kvs,⟨h,_⟩ | ⟨h,_⟩⟩
 ·rw [h,hx]
 ·rw [hx] at h; exact absurd (yy h) (n1 kvs)
 ·rw [hx] at h; exact absurd (yy h) (n2 o _)
theorem Like.lst {H H':Hp} {a:Addr} {vs:List V} (h:Like (H a) (H' a)) (hx:H a=some (.lst vs)∨∃ o,H a=some (.frz o (.lst vs))):H' a=some (.lst vs)∨∃ o,H' a=some (.frz o (.lst vs)):=by
 rcases h with h | ⟨o,kvs,⟨h,_⟩ | ⟨h,_⟩⟩
 ·rw [h]; exact hx
 ·rw [h] at hx; rcases hx with z | ⟨_,z⟩ <;> (injection z with z; injection z)
 ·rw [h] at hx; rcases hx with z | ⟨_,z⟩ <;> cases z
theorem Like.dK {H H':Hp} {a:Addr} {kvs:List (Key × V)} (h:Like (H a) (H' a)) (hx:Rd H a (.dK kvs)):Rd H' a (.dK kvs):=by
 unfold Rd at hx ⊢
 rcases h with h | ⟨o,ws,⟨h,h'⟩ | ⟨h,h'⟩⟩
 ·rw [h]; exact hx
 ·rw [h] at hx
  rcases hx with z | ⟨_,z⟩
  ·(injection z with z; injection z with z; subst z); exact .inr ⟨o,h'⟩
  ·(injection z with z; injection z)
 ·rw [h] at hx
  rcases hx with z | ⟨_,z⟩
  ·(injection z with z; injection z)
  ·cases z; exact .inl h'
structure g8 (fp:List Addr) (H H':Hp):Prop where
 at_:∀ a∈fp,Like (H a) (H' a)
 tup:∀ a vs,H a=some (.tup vs)→H' a=some (.tup vs)
theorem g8.sub {fp g:List Addr} {H H':Hp} (k:g8 fp H H') (h:∀ a∈g,a∈fp):g8 g H H':=⟨fun a ha=>k.at_ a (h a ha),k.tup⟩
theorem Keep.l {fp:List Addr} {H H':Hp} (k:Keep fp H H'):g8 fp H H':=⟨fun a ha=>.inl (k.at_ a ha),k.tup⟩
mutual
theorem Rep.keepL {cl:Nat→Addr} {H H':Hp}:∀ {d:D} {v:V} {fp:List Addr},Rep cl H d v fp→g8 fp H H'→Rep cl H' d v fp
 | .non,_,_,h,_=>h
 | .bl _,_,_,h,_=>h
 | .int _,_,_,h,_=>h
 | .str _,_,_,h,_=>h
 | .tup l,v,fp,h,k=>by
  unfold Rep at h ⊢
  refine zz fun P_ k_=>?_
  obtain ⟨a,vs,e,ha,r⟩:=h
  refine k_ ?_
  exact ⟨a,vs,e,k.tup a vs ha,RepL.keepL r k⟩
 | .lst l,v,fp,h,k=>by
  unfold Rep at h ⊢
  refine zz fun P_ k_=>?_
  obtain ⟨a,vs,f,e,ef,r,h⟩:=h
  refine k_ ?_
  subst ef
  refine ⟨a,vs,f,e,rfl,RepL.keepL r (k.sub fun b hb=>z8 _ hb), ?_⟩
  exact (k.at_ a za).lst h
 | .dK l,v,fp,h,k=>by
  unfold Rep at h ⊢
  refine zz fun P_ k_=>?_
  obtain ⟨a,f,kvs,e,ef,ha,hk,r⟩:=h
  refine k_ ?_
  subst ef
  exact ⟨a,f,kvs,e,rfl,(k.at_ a za).dK ha,hk,RepM.keepL r (k.sub fun b hb=>z8 _ hb)⟩
 | .dT l,v,fp,h,k=>by
  unfold Rep at h ⊢
  refine zz fun P_ k_=>?_
  obtain ⟨a,f,kvs,e,ef,ha,hk,r⟩:=h
  refine k_ ?_
  subst ef
  exact ⟨a,f,kvs,e,rfl,(k.at_ a za).keep ha (fun _ z=>nomatch z) (fun _ _ z=>nomatch z),hk,RepT.keepL r (k.sub fun b hb=>z8 _ hb)⟩
 | .obj c fs,v,fp,h,k=>by
  unfold Rep at h ⊢
  refine zz fun P_ k_=>?_
  obtain ⟨a,dx,f,gs,e,ef,ha,hd,hn,r⟩:=h
  refine k_ ?_
  subst ef
  exact ⟨a,dx,f,gs,e,rfl,(k.at_ a za).keep ha (fun _ z=>nomatch z) (fun _ _ z=>nomatch z),(k.at_ dx (z8 _ za)).keep hd (fun _ z=>nomatch z) (fun _ _ z=>nomatch z),hn,RepF.keepL r (k.sub fun b hb=>z8 _ (z8 _ hb))⟩
theorem RepL.keepL {cl:Nat→Addr} {H H':Hp}:∀ {l:List D} {vs:List V} {fp:List Addr},RepL cl H l vs fp→g8 fp H H'→RepL cl H' l vs fp
 | [],_,_,h,_=>h
 | d::r,vs,fp,h,k=>by
  unfold RepL at h ⊢
  refine zz fun P_ k_=>?_
  obtain ⟨v,vr,f,g,e,ef,h1,h2⟩:=h
  refine k_ ?_
  subst ef
  exact ⟨v,vr,f,g,e,rfl,Rep.keepL h1 (k.sub fun b hb=>zk _ hb),RepL.keepL h2 (k.sub fun b hb=>zd _ hb)⟩
theorem RepM.keepL {cl:Nat→Addr} {H H':Hp}:∀ {l:List (Key × D)} {vs:List V} {fp:List Addr},RepM cl H l vs fp→g8 fp H H'→RepM cl H' l vs fp
 | [],_,_,h,_=>h
 | (q,d)::r,vs,fp,h,k=>by
  unfold RepM at h ⊢
  obtain ⟨v,vr,f,g,e,ef,h1,h2⟩:=h
  subst ef
  exact ⟨v,vr,f,g,e,rfl,Rep.keepL h1 (k.sub fun b hb=>zk _ hb),RepM.keepL h2 (k.sub fun b hb=>zd _ hb)⟩
theorem RepT.keepL {cl:Nat→Addr} {H H':Hp}:∀ {l:List (List Key × D)} {vs:List V} {fp:List Addr},RepT cl H l vs fp→g8 fp H H'→RepT cl H' l vs fp
 | [],_,_,h,_=>h
 | (q,d)::r,vs,fp,h,k=>by
  unfold RepT at h ⊢
  refine zz fun P_ k_=>?_
  obtain ⟨v,vr,f,g,e,ef,h1,h2⟩:=h
  refine k_ ?_
  subst ef
  exact ⟨v,vr,f,g,e,rfl,Rep.keepL h1 (k.sub fun b hb=>zk _ hb),RepT.keepL h2 (k.sub fun b hb=>zd _ hb)⟩
theorem RepF.keepL {cl:Nat→Addr} {H H':Hp}:∀ {l:List (Str × D)} {vs:List V} {fp:List Addr},RepF cl H l vs fp→g8 fp H H'→RepF cl H' l vs fp
 | [],_,_,h,_=>h
 | (q,d)::r,vs,fp,h,k=>by
  unfold RepF at h ⊢
  obtain ⟨v,vr,f,g,e,ef,h1,h2⟩:=h
  subst ef
  exact ⟨v,vr,f,g,e,rfl,Rep.keepL h1 (k.sub fun b hb=>zk _ hb),RepF.keepL h2 (k.sub fun b hb=>zd _ hb)⟩
end
theorem Rep.keep {cl:Nat→Addr} {H H':Hp} {d:D} {v:V} {fp:List Addr} (h:Rep cl H d v fp) (k:Keep fp H H'):Rep cl H' d v fp:=h.keepL k.l
theorem RepL.keep {cl:Nat→Addr} {H H':Hp} {l:List D} {vs:List V} {fp:List Addr} (h:RepL cl H l vs fp) (k:Keep fp H H'):RepL cl H' l vs fp:=h.keepL k.l
noncomputable def Own (x:Option HO):Prop:=x≠none∧∀ vs,x≠some (.tup vs)
theorem Own.of {x:Option HO} {o:HO} (h:x=some o) (n:∀ vs,o ≠ .tup vs):Own x:=⟨fun z=>(nomatch h.symm.trans z),fun vs z=>n vs (yy (h.symm.trans z))⟩
theorem Own.nil {H:Hp} {fp:List Addr} (h:fp=[]):∀ a∈fp,Own (H a):=fun a ha=>absurd (h ▸ ha) xg
theorem Own.cons {H:Hp} {a:Addr} {fp g:List Addr} (e:fp=a::g) (h:Own (H a)) (k:∀ b∈g,Own (H b)):∀ b∈fp,Own (H b):=e ▸ List.forall_mem_cons.mpr ⟨h,k⟩
theorem Own.app {H:Hp} {fp f g:List Addr} (e:fp=f++g) (h:∀ b∈f,Own (H b)) (k:∀ b∈g,Own (H b)):∀ b∈fp,Own (H b):=e ▸ List.forall_mem_append.mpr ⟨h,k⟩
theorem Own.two {α:Type} {x:Option HO} {y:HO} {f:α→HO} (h:x=some y∨∃ o,x=some (f o)) (n:∀ vs,y ≠ .tup vs) (m:∀ o vs,f o ≠ .tup vs):Own x:=h.elim (fun z=>Own.of z n) fun ⟨o,z⟩=>Own.of z (m o)
mutual
theorem Rep.own {cl:Nat→Addr} {H:Hp}:∀ {d:D} {v:V} {fp:List Addr},Rep cl H d v fp→∀ a∈fp,Own (H a)
 | .non,_,_,h=>Own.nil h.2
 | .bl _,_,_,h=>Own.nil h.2
 | .int _,_,_,h=>Own.nil h.2
 | .str _,_,_,h=>Own.nil h.2
 | .tup l,v,fp,h=>by
  refine zz fun P_ k_=>?_
  obtain ⟨a,vs,e,ha,r⟩:=h
  refine k_ ?_
  exact RepL.own r
 | .lst l,v,fp,h=>by
  refine zz fun P_ k_=>?_
  obtain ⟨a,vs,f,e,ef,r,h⟩:=h
  refine k_ ?_
  exact Own.cons ef (Own.two h (fun _ z=>nomatch z) (fun _ _ z=>nomatch z)) (RepL.own r)
 | .dK l,v,fp,h=>by
  refine zz fun P_ k_=>?_
  obtain ⟨a,f,kvs,e,ef,ha,hk,r⟩:=h
  refine k_ ?_
  exact Own.cons ef (Own.two ha (fun _ z=>nomatch z) (fun _ _ z=>nomatch z)) (RepM.own r)
 | .dT l,v,fp,h=>by
  refine zz fun P_ k_=>?_
  obtain ⟨a,f,kvs,e,ef,ha,hk,r⟩:=h
  refine k_ ?_
  exact Own.cons ef (Own.of ha (fun _ z=>nomatch z)) (RepT.own r)
 | .obj c fs,v,fp,h=>by
  refine zz fun P_ k_=>?_
  obtain ⟨a,dx,f,gs,e,ef,ha,hd,hn,r⟩:=h
  refine k_ ?_
  exact Own.cons ef (Own.of ha (fun _ z=>nomatch z)) (Own.cons rfl (Own.of hd (fun _ z=>nomatch z)) (RepF.own r))
theorem RepL.own {cl:Nat→Addr} {H:Hp}:∀ {l:List D} {vs:List V} {fp:List Addr},RepL cl H l vs fp→∀ a∈fp,Own (H a)
 | [],_,_,h=>Own.nil (by unfold RepL at h; exact h.2)
 | d::r,vs,fp,h=>by
  refine zz fun P_ k_=>?_
  obtain ⟨v,vr,f,g,e,ef,h1,h2⟩:=h
  refine k_ ?_
  exact Own.app ef (Rep.own h1) (RepL.own h2)
theorem RepM.own {cl:Nat→Addr} {H:Hp}:∀ {l:List (Key × D)} {vs:List V} {fp:List Addr},RepM cl H l vs fp→∀ a∈fp,Own (H a)
 | [],_,_,h=>Own.nil (by unfold RepM at h; exact h.2)
 | (q,d)::r,vs,fp,h=>by
  refine zz fun P_ k_=>?_
  obtain ⟨v,vr,f,g,e,ef,h1,h2⟩:=h
  refine k_ ?_
  exact Own.app ef (Rep.own h1) (RepM.own h2)
theorem RepT.own {cl:Nat→Addr} {H:Hp}:∀ {l:List (List Key × D)} {vs:List V} {fp:List Addr},RepT cl H l vs fp→∀ a∈fp,Own (H a)
 | [],_,_,h=>Own.nil (by unfold RepT at h; exact h.2)
 | (q,d)::r,vs,fp,h=>by
  refine zz fun P_ k_=>?_
  obtain ⟨v,vr,f,g,e,ef,h1,h2⟩:=h
  refine k_ ?_
  exact Own.app ef (Rep.own h1) (RepT.own h2)
theorem RepF.own {cl:Nat→Addr} {H:Hp}:∀ {l:List (Str × D)} {vs:List V} {fp:List Addr},RepF cl H l vs fp→∀ a∈fp,Own (H a)
 | [],_,_,h=>Own.nil (by unfold RepF at h; exact h.2)
 | (q,d)::r,vs,fp,h=>by
  refine zz fun P_ k_=>?_
  obtain ⟨v,vr,f,g,e,ef,h1,h2⟩:=h
  refine k_ ?_
  exact Own.app ef (Rep.own h1) (RepF.own h2)
end
theorem Rep.dom {cl:Nat→Addr} {H:Hp} {d:D} {v:V} {fp:List Addr} (h:Rep cl H d v fp):∀ a∈fp,H a≠none:=fun a ha=>(h.own a ha).1
theorem Rep.notup {cl:Nat→Addr} {H:Hp} {d:D} {v:V} {fp:List Addr} (h:Rep cl H d v fp):∀ a∈fp,∀ vs,H a≠some (.tup vs):=fun a ha=>(h.own a ha).2
theorem RepL.dom {cl:Nat→Addr} {H:Hp} {d:List D} {v:List V} {fp:List Addr} (h:RepL cl H d v fp):∀ a∈fp,H a≠none:=fun a ha=>(h.own a ha).1
theorem RepL.notup {cl:Nat→Addr} {H:Hp} {d:List D} {v:List V} {fp:List Addr} (h:RepL cl H d v fp):∀ a∈fp,∀ vs,H a≠some (.tup vs):=fun a ha=>(h.own a ha).2
mutual
theorem Rep.imm {cl:Nat→Addr} {H:Hp}:∀ {d:D} {v:V} {fp:List Addr},Rep cl H d v fp→d.imm=true→fp=[]
 | .non,_,_,h,_=>h.2
 | .bl _,_,_,h,_=>h.2
 | .int _,_,_,h,_=>h.2
 | .str _,_,_,h,_=>h.2
 | .tup l,v,fp,h,k=>by
  obtain ⟨a,vs,e,ha,r⟩:=h
  exact RepL.imm r k
 | .lst _,_,_,_,k=>by simp [D.imm] at k
 | .dK _,_,_,_,k=>by simp [D.imm] at k
 | .dT _,_,_,_,k=>by simp [D.imm] at k
 | .obj _ _,_,_,_,k=>by simp [D.imm] at k
theorem RepL.imm {cl:Nat→Addr} {H:Hp}:∀ {l:List D} {vs:List V} {fp:List Addr},RepL cl H l vs fp→immL l=true→fp=[]
 | [],_,_,h,_=>h.2
 | d::r,vs,fp,h,k=>by
  obtain ⟨v,vr,f,g,e,ef,h1,h2⟩:=h
  have k':d.imm=true∧immL r=true:=by simpa [immL] using k
  rw [ef,Rep.imm h1 k'.1,RepL.imm h2 k'.2]
  rfl
end
theorem Keep.same {fp:List Addr} {H H':Hp} (s:Same H H') (h:∀ a∈fp,H a≠none):Keep fp H H':=⟨fun a ha=>by
 cases q:H a with
 | none=>exact absurd q (h a ha)
 | some o=>exact s a o q,fun a vs e=>s a _ e⟩
theorem Rep.same {cl:Nat→Addr} {H H':Hp} {d:D} {v:V} {fp:List Addr} (h:Rep cl H d v fp) (s:Same H H'):Rep cl H' d v fp:=h.keep (Keep.same s h.dom)
theorem RepL.same {cl:Nat→Addr} {H H':Hp} {d:List D} {v:List V} {fp:List Addr} (h:RepL cl H d v fp) (s:Same H H'):RepL cl H' d v fp:=h.keep (Keep.same s h.dom)
theorem RepL.len {cl:Nat→Addr} {H:Hp}:∀ {l:List D} {vs:List V} {fp:List Addr},RepL cl H l vs fp→vs.length=l.length:=by
 intro x_0
 induction x_0 with
 | nil =>
  intro _ _ h
  unfold RepL at h; rw [h.1]; rfl
 | cons d r ih_ =>
  intro vs fp h
  obtain ⟨v,vr,f,g,e,ef,h1,h2⟩:=h
  rw [e,yx,yx,ih_ h2]
theorem Same.new {H:Hp} {a:Addr} {o:HO} (h:H a=none):Same H (upd H a o):=fun b u e=>by
 rw [ah (bg e h)]
 exact e
theorem LC.imp {P:V→List Addr→Prop} {Q Q':List V→List Addr→Prop} {vs:List V} {fp:List Addr} (h:LC P Q vs fp) (q:∀ {vs fp},Q vs fp→Q' vs fp):LC P Q' vs fp:=by
 refine zz fun P_ k_=>?_
 obtain ⟨v,vr,f,g,e,ef,h1,h2⟩:=h
 refine k_ ?_
 exact ⟨v,vr,f,g,e,ef,h1,q h2⟩
theorem RepM.l {cl:Nat→Addr} {H:Hp}:∀ {l:List (Key × D)} {vs:List V} {fp:List Addr},RepM cl H l vs fp↔RepL cl H (l.map (·.2)) vs fp:=by
 intro l
 induction l with
 | nil=>intro vs fp; exact Iff.rfl
 | cons p r ih=>intro vs fp; exact ⟨fun h=>LC.imp h ih.mp,fun h=>LC.imp h ih.mpr⟩
theorem RepT.l {cl:Nat→Addr} {H:Hp}:∀ {l:List (List Key × D)} {vs:List V} {fp:List Addr},RepT cl H l vs fp↔RepL cl H (l.map (·.2)) vs fp:=by
 intro l
 induction l with
 | nil=>intro vs fp; exact Iff.rfl
 | cons p r ih=>intro vs fp; exact ⟨fun h=>LC.imp h ih.mp,fun h=>LC.imp h ih.mpr⟩
theorem RepF.l {cl:Nat→Addr} {H:Hp}:∀ {l:List (Str × D)} {vs:List V} {fp:List Addr},RepF cl H l vs fp↔RepL cl H (l.map (·.2)) vs fp:=by
 intro l
 induction l with
 | nil=>intro vs fp; exact Iff.rfl
 | cons p r ih=>intro vs fp; exact ⟨fun h=>LC.imp h ih.mp,fun h=>LC.imp h ih.mpr⟩
end Vi
namespace Vi
open PySem L2
noncomputable def NF (H:Hp) (a:Addr):Prop:=∀ o u,H a≠some (.frz o u)
theorem NF.same {H H':Hp} {a:Addr} (h:NF H a) (s:Same H H') (d:H a≠none):NF H' a:=fun o u e=>by
 cases q:H a with
 | none=>exact d q
 | some x =>
  have:=s a x q
  rw [e] at this
  (injection this with this; subst this)
  exact h o u q
structure SOK (cl:Nat→Addr) (H0:Hp) (ρ:Env) (F:Nat→List Addr) (σ:St) (H:Hp):Prop where
 same:Same H0 H
 len:σ.length=ρ.length
 rep:∀ (i:Nat) (d:D) (o:Bool),ρ[i]?=some (some (d,o))→∃ v,σ[i]?=some (some v)∧Rep cl H d v (F i)
 own:∀ (i:Nat) (d:D),ρ[i]?=some (some (d,true))→(F i).Nodup∧∀ a∈F i,H0 a=none∧NF H a
 dis:∀ (i j:Nat) (d e:D) (o:Bool),i≠j→ρ[i]?=some (some (d,true))→ρ[j]?=some (some (e,o))→∀ a∈F i,a∉F j
 old:∀ (i:Nat) (d:D),ρ[i]?=some (some (d,false))→∀ a∈F i,H0 a≠none
noncomputable def KOk (ρ:Env) (F:Nat→List Addr) (H H0 H':Hp) (fp:List Addr):Kd→Prop
 | .sto is=>fp.Nodup∧(∀ i∈is,∃ d,ρ[i]?=some (some (d,true)))∧(∀ a∈fp,H a=none∨∃ i∈is,a∈F i)∧∀ a∈fp,NF H' a
 | .old=>∀ a∈fp,H0 a≠none
 | .bor=>True
section
variable {cl:Nat→Addr} {H0 H H':Hp} {ρ:Env} {F:Nat→List Addr} {σ:St}
theorem SOK.step (S:SOK cl H0 ρ F σ H) (s:Same H H'):SOK cl H0 ρ F σ H' :=
 ⟨S.same.trans s,S.len,fun i d o e=>let ⟨v,h1,h2⟩:=S.rep i d o e; ⟨v,h1,h2.same s⟩,fun i d e=>⟨(S.own i d e).1,fun a ha=>⟨((S.own i d e).2 a ha).1,((S.own i d e).2 a ha).2.same s (let ⟨_,_,r⟩:=S.rep i d true e; r.dom a ha)⟩⟩,S.dis,S.old⟩
theorem KOk.nil0 {H1:Hp}:KOk ρ F H H0 H1 [] (.sto []):=⟨vm,fun _ h=>(nomatch h),fun _ h=>(nomatch h),fun _ h=>(nomatch h)⟩
theorem KOk.imm {cl:Nat→Addr} {d:D} {v:V} {fp:List Addr} (r:Rep cl H' d v fp) (h:d.imm=true) {H1:Hp}:KOk ρ F H H0 H1 fp (.sto []):=by
 rw [r.imm h]
 exact KOk.nil0
theorem SOK.dom (S:SOK cl H0 ρ F σ H) {i:Nat} {d:D} {o:Bool} (e:ρ[i]?=some (some (d,o))):∀ a∈F i,H a≠none:=by
 obtain ⟨v,_,r⟩:=S.rep i d o e
 exact r.dom
theorem KOk.comb {H1 H2:Hp} {f g:List Addr} {k1 k2:Kd} (S:SOK cl H0 ρ F σ H) (s:Same H H1) (s2:Same H1 H2) (hf:∀ a∈f,H1 a≠none) (h1:KOk ρ F H H0 H1 f k1) (h2:KOk ρ F H1 H0 H2 g k2):KOk ρ F H H0 H2 (f++g) (combK k1 k2):=by
 cases k1 with
 | old=>exact xm
 | bor=>exact xm
 | sto a =>
  cases k2 with
  | old=>exact xm
  | bor=>exact xm
  | sto b =>
   show KOk ρ F H H0 H2 (f++g) (if a.all (fun i=>!b.contains i)=true then .sto (a++b) else .bor)
   by_cases hd:a.all (fun i=>!b.contains i)=true
   ·rw [if_pos hd]
    have hd':∀ i∈a,i∉b:=fun i hi=>by
     have:=q4.mp hd i hi
     simpa using this
    obtain ⟨n1,o1,m1,z1⟩:=h1
    obtain ⟨n2,o2,m2,z2⟩:=h2
    refine ⟨x4.mpr ⟨n1,n2,fun x hx y hy e=>?_⟩,fun i hi=>?_,fun x hx=>?_,fun x hx=>(y2.mp hx).elim (fun z=>(z1 x z).same s2 (hf x z)) (z2 x)⟩
    ·subst e
     rcases m2 x hy with z | ⟨j,hj,zj⟩
     ·exact hf x hx z
     ·obtain ⟨dj,ej⟩:=o2 j hj
      rcases m1 x hx with z | ⟨i,hi,zi⟩
      ·exact S.dom ej x zj z
      ·obtain ⟨di,ei⟩:=o1 i hi
       have hij:i≠j:=fun q=>hd' i hi (q ▸ hj)
       exact S.dis i j di dj true hij ei ej x zi zj
    ·rcases y2.mp hi with z | z
     ·exact o1 i z
     ·exact o2 i z
    ·rcases y2.mp hx with z | z
     ·rcases m1 x z with q | ⟨i,hi,q⟩
      ·exact .inl q
      ·exact .inr ⟨i,zk _ hi,q⟩
     ·rcases m2 x z with q | ⟨i,hi,q⟩
      ·exact .inl (s.free q)
      ·exact .inr ⟨i,zd _ hi,q⟩
   ·rw [if_neg hd]
    exact xm
theorem cM {α:Type}:∀ {is:List Nat} {t:List (Option α)} {j:Nat} {x:α},(is.foldl (fun t j=>t.set j none) t)[j]?=some (some x)→t[j]?=some (some x)∧j∉is:=by
 intro x_0
 induction x_0 with
 | nil =>
  intro _ _ _ h
  exact ⟨h,by simp⟩
 | cons i r ih_ =>
  intro t j x h
  obtain ⟨h1,h2⟩:=ih_ h
  by_cases e:i=j
  ·subst e
   rw [m9] at h1
   split at h1
   ·split at h1 <;> simp at h1
   ·exact absurd rfl ‹_›
  ·rw [yu e] at h1
   exact ⟨h1,by simp [h2,wt e]⟩
theorem fe {α:Type}:∀ (is:List Nat) (t:List (Option α)),(is.foldl (fun t j=>t.set j none) t).length=t.length:=by
 intro x_0
 induction x_0 with
 | nil =>
  intro _
  exact rfl
 | cons i r ih_ =>
  intro t
  show (r.foldl _ (t.set i none)).length=_
  rw [ih_]
  simp
theorem SOK.drop (S:SOK cl H0 ρ F σ H) (is:List Nat):SOK cl H0 (is.foldl (fun t j=>t.set j none) ρ) F σ H :=
 ⟨S.same,by rw [fe]; exact S.len,fun i d o e=>S.rep i d o (cM e).1,fun i d e=>S.own i d (cM e).1,fun i j d e o h a b=>S.dis i j d e o h (cM a).1 (cM b).1,fun i d e=>S.old i d (cM e).1⟩
theorem d0 {α:Type} {t:List α} {i j:Nat} {x:α} (hi:i < t.length):(t.set i x)[j]?=if i=j then some x else t[j]?:=by
 rw [m9]
 by_cases e:i=j
 ·subst e
  rw [if_pos rfl,if_pos rfl,if_pos hi]
 ·rw [if_neg e,if_neg e]
theorem SOK.set {d:D} {v:V} {fp:List Addr} {k:Kd} {i:Nat} {ρ':Env} (S:SOK cl H0 ρ F σ H) (s:Same H H') (r:Rep cl H' d v fp) (hk:KOk ρ F H H0 H' fp k) (e:aN ρ i d k=some ρ') :
  ∃ F',SOK cl H0 ρ' F' (σ.set i (some v)) H':=by
 unfold aN at e
 by_cases hi:i < ρ.length
 ·rw [if_pos hi] at e
  have hiσ:i < σ.length:=by rw [S.len]; exact hi
  have S':=S.step s
  refine ⟨fun j=>if j=i then fp else F j, ?_⟩
  cases k with
  | bor=>injection e
  | old =>
   (injection e with e; subst e)
   have look:∀ {j:Nat} {x:D × Bool},(ρ.set i (some (d,false)))[j]?=some (some x)→(j=i∧x=(d,false))∨(j≠i∧ρ[j]?=some (some x)):=fun {j x} h=>by
    rw [d0 hi] at h
    by_cases q:i=j
    ·rw [if_pos q] at h; exact .inl ⟨q.symm,by (injection h with h; injection h with h; subst h); rfl⟩
    ·rw [if_neg q] at h; exact .inr ⟨wt q,h⟩
   refine ⟨S'.same,by simpa using S.len,fun j e o h=>?_,fun j e h=>?_,fun j l e e' o hjl h h'=>?_,fun j e h=>?_⟩
   ·rcases look h with ⟨rfl,q⟩ | ⟨q,h⟩
    ·(injection q with q; subst q)
     exact ⟨v,by rw [d0 hiσ,if_pos rfl],by rw [if_pos rfl]; exact r⟩
    ·obtain ⟨w,h1,h2⟩:=S'.rep j e o h
     exact ⟨w,by rw [d0 hiσ,if_neg (wt q)]; exact h1,by rw [if_neg q]; exact h2⟩
   ·rcases look h with ⟨_,q⟩ | ⟨q,h⟩
    ·cases q
    ·simp only [if_neg q]; exact S'.own j e h
   ·rcases look h with ⟨_,q⟩ | ⟨q,hA⟩
    ·cases q
    ·simp only [if_neg q]
     rcases look h' with ⟨q2,q'⟩ | ⟨q',hB⟩
     ·rw [if_pos q2]
      intro a ha hb
      exact hk a hb ((S.own j e hA).2 a ha).1
     ·rw [if_neg q']; exact S.dis j l e e' o hjl hA hB
   ·rcases look h with ⟨rfl,q⟩ | ⟨q,h⟩
    ·rw [if_pos rfl]; exact hk
    ·simp only [if_neg q]; exact S.old j e h
  | sto is =>
   have e:(is.foldl (fun t j=>t.set j none) ρ).set i (some (d,true))=ρ':=yy e
   subst e
   have hi':i < (is.foldl (fun t j=>t.set j none) ρ).length:=by rw [fe]; exact hi
   obtain ⟨n1,o1,m1,z1⟩:=hk
   have look:∀ {j:Nat} {x:D × Bool},((is.foldl (fun t j=>t.set j none) ρ).set i (some (d,true)))[j]?=some (some x)→(j=i∧x=(d,true))∨(j≠i∧ρ[j]?=some (some x)∧j∉is):=fun {j x} h=>by
    rw [d0 hi'] at h
    by_cases q:i=j
    ·rw [if_pos q] at h; exact .inl ⟨q.symm,by (injection h with h; injection h with h; subst h); rfl⟩
    ·rw [if_neg q] at h; exact .inr ⟨wt q,cM h⟩
   have apart:∀ {j:Nat} {e:D} {o:Bool},ρ[j]?=some (some (e,o))→j∉is→∀ a∈fp,a∉F j:=fun {j e o} h hj a ha hb=>by
    rcases m1 a ha with z | ⟨l,hl,z⟩
    ·exact S.dom h a hb z
    ·obtain ⟨dl,el⟩:=o1 l hl
     exact S.dis l j dl e o (fun q=>hj (q ▸ hl)) el h a z hb
   refine ⟨S'.same,by simp only [on,fe]; exact S.len,fun j e o h=>?_,fun j e h=>?_,fun j l e e' o hjl h h'=>?_,fun j e h=>?_⟩
   ·rcases look h with ⟨rfl,q⟩ | ⟨q,h,_⟩
    ·(injection q with q; subst q)
     exact ⟨v,by rw [d0 hiσ,if_pos rfl],by rw [if_pos rfl]; exact r⟩
    ·obtain ⟨w,h1,h2⟩:=S'.rep j e o h
     exact ⟨w,by rw [d0 hiσ,if_neg (wt q)]; exact h1,by rw [if_neg q]; exact h2⟩
   ·rcases look h with ⟨rfl,_⟩ | ⟨q,h,_⟩
    ·rw [if_pos rfl]
     refine ⟨n1,fun a ha=>⟨?_,z1 a ha⟩⟩
     rcases m1 a ha with z | ⟨l,hl,z⟩
     ·exact S.same.free z
     ·obtain ⟨dl,el⟩:=o1 l hl
      exact ((S.own l dl el).2 a z).1
    ·simp only [if_neg q]; exact S'.own j e h
   ·rcases look h with ⟨q1,_⟩ | ⟨q,hA,hj⟩
    ·simp only [if_pos q1]
     rcases look h' with ⟨q2,_⟩ | ⟨q',hB,hl⟩
     ·exact absurd (q1.trans q2.symm) hjl
     ·rw [if_neg q']; exact apart hB hl
    ·simp only [if_neg q]
     rcases look h' with ⟨q2,_⟩ | ⟨q',hB,hl⟩
     ·rw [if_pos q2]; exact fun a ha hb=>apart hA hj a hb ha
     ·rw [if_neg q']; exact S.dis j l e e' o hjl hA hB
   ·rcases look h with ⟨_,q⟩ | ⟨q,h,_⟩
    ·cases q
    ·simp only [if_neg q]; exact S.old j e h
 ·rw [if_neg hi] at e
  injection e
end
inductive tD (cl:Nat→Addr) (ρ:Env) (d:D) (k:Kd) (σ:St) (H:Hp) (Q:VK):Prop
 | mk (H0:Hp) (F:Nat→List Addr) (S:SOK cl H0 ρ F σ H) (q:∀ v H' fp,Same H H'→Rep cl H' d v fp→KOk ρ F H H0 H' fp k→Q v H')
inductive tDs (cl:Nat→Addr) (ρ:Env) (ds:List D) (k:Kd) (σ:St) (H:Hp) (Q:List V→Hp→Prop):Prop
 | mk (H0:Hp) (F:Nat→List Addr) (S:SOK cl H0 ρ F σ H) (q:∀ vs H' fp,Same H H'→RepL cl H' ds vs fp→KOk ρ F H H0 H' fp k→Q vs H')
section
variable {cl:Nat→Addr} {H0 H:Hp} {ρ:Env} {F:Nat→List Addr} {σ:St}
theorem KOk.of_sub {H H1 H2:Hp} {H0:Hp} {fp:List Addr} {k:Kd} (s:Same H H1) (h:KOk ρ F H1 H0 H2 fp k):KOk ρ F H H0 H2 fp k:=by
 cases k with
 | sto is=>exact ⟨h.1,h.2.1,fun a ha=>(h.2.2.1 a ha).elim (fun z=>.inl (s.free z)) .inr,h.2.2.2⟩
 | old=>exact h
 | bor=>exact h
theorem tD2 {d1 d2:D} {k1 k2:Kd} {R:V→V→Hp→Prop} (S:SOK cl H0 ρ F σ H)
  (h:∀ x y H1 H2 f g,Same H H1→Same H1 H2→Rep cl H2 d1 x f→Rep cl H2 d2 y g→(∀ a∈f,H1 a≠none)→KOk ρ F H H0 H1 f k1→KOk ρ F H1 H0 H2 g k2→R x y H2) :
  tD cl ρ d1 k1 σ H fun x H1=>tD cl ρ d2 k2 σ H1 fun y H2=>R x y H2 :=
 ⟨H0,F,S,fun x H1 f s1 r1 q1=>⟨H0,F,S.step s1,fun y H2 g s2 r2 q2=>h x y H1 H2 f g s1 s2 (r1.same s2) r2 r1.dom q1 q2⟩⟩
end
end Vi
namespace Vi
open PySem L2
section
variable {cl:Nat→Addr} {H0 H H':Hp} {ρ ρl ρ':Env} {F F':Nat→List Addr} {σ σ':St}
theorem SOK.mut {i:Nat} {d d':D} {v:V} {fp:List Addr} {is:List Nat} (S:SOK cl H0 ρ F σ H) (e:ρ[i]?=some (some (d,true))) (hv:σ[i]?=some (some v)) (hi:i∉is) (ho:∀ j∈is,∃ d,ρ[j]?=some (some (d,true)))
  (r:Rep cl H' d' v fp) (n:fp.Nodup) (m:∀ a∈fp,a∈F i∨H a=none∨∃ j∈is,a∈F j) (nf:∀ a∈fp,NF H' a) (keep:∀ b,b∉F i→H b≠none→H' b=H b) (tup:∀ a vs,H a=some (.tup vs)→H' a=some (.tup vs)) :
  ∃ F',SOK cl H0 ((is.foldl (fun t j=>t.set j none) ρ).set i (some (d',true))) F' σ H':=by
 have hil:i < ρ.length:=(yi.mp e).1
 have hi':i < (is.foldl (fun t j=>t.set j none) ρ).length:=by rw [fe]; exact hil
 refine ⟨fun j=>if j=i then fp else F j, ?_⟩
 have look:∀ {j:Nat} {x:D × Bool},((is.foldl (fun t j=>t.set j none) ρ).set i (some (d',true)))[j]?=some (some x)→(j=i∧x=(d',true))∨(j≠i∧ρ[j]?=some (some x)∧j∉is):=fun {j x} h=>by
  rw [d0 hi'] at h
  by_cases q:i=j
  ·rw [if_pos q] at h; exact .inl ⟨q.symm,by (injection h with h; injection h with h; subst h); rfl⟩
  ·rw [if_neg q] at h; exact .inr ⟨wt q,cM h⟩
 have apart:∀ {j:Nat} {x:D} {o:Bool},j≠i→ρ[j]?=some (some (x,o))→j∉is→∀ a∈fp,a∉F j:=fun {j x o} hji h hj a ha hb=>by
  rcases m a ha with z | z | ⟨l,hl,z⟩
  ·exact S.dis i j d x o (wt hji) e h a z hb
  ·exact S.dom h a hb z
  ·obtain ⟨dl,el⟩:=ho l hl
   exact S.dis l j dl x o (fun q=>hj (q ▸ hl)) el h a z hb
 have stay:∀ {j:Nat} {x:D} {o:Bool},j≠i→ρ[j]?=some (some (x,o))→∀ a∈F j,H' a=H a:=fun {j x o} hji h a ha =>
  keep a (fun z=>S.dis i j d x o (wt hji) e h a z ha) (S.dom h a ha)
 refine ⟨fun b o h=>?_,by simp only [on,fe]; exact S.len,fun j x o h=>?_,fun j x h=>?_,fun j l x y o hjl h h'=>?_,fun j x h=>?_⟩
 ·have h1:=S.same b o h
  rw [keep b (fun z=>?_) (by rw [h1]; simp)]
  ·exact h1
  ·have:=((S.own i d e).2 b z).1
   rw [h] at this
   injection this
 ·rcases look h with ⟨q,z⟩ | ⟨q,hA,hj⟩
  ·(injection z with z; subst z)
   rw [q]
   exact ⟨v,hv,by rw [if_pos rfl]; exact r⟩
  ·obtain ⟨w,h1,h2⟩:=S.rep j x o hA
   exact ⟨w,h1,by rw [if_neg q]; exact h2.keep ⟨stay q hA,tup⟩⟩
 ·rcases look h with ⟨q,z⟩ | ⟨q,hA,hj⟩
  ·simp only [if_pos q]
   refine ⟨n,fun a ha=>⟨?_,nf a ha⟩⟩
   rcases m a ha with z | z | ⟨l,hl,z⟩
   ·exact ((S.own i d e).2 a z).1
   ·exact S.same.free z
   ·obtain ⟨dl,el⟩:=ho l hl
    exact ((S.own l dl el).2 a z).1
  ·simp only [if_neg q]
   refine ⟨(S.own j x hA).1,fun a ha=>⟨((S.own j x hA).2 a ha).1,fun o u z=>?_⟩⟩
   rw [stay q hA a ha] at z
   exact ((S.own j x hA).2 a ha).2 o u z
 ·rcases look h with ⟨q1,_⟩ | ⟨q,hA,hj⟩
  ·simp only [if_pos q1]
   rcases look h' with ⟨q2,_⟩ | ⟨q',hB,hl⟩
   ·exact absurd (q1.trans q2.symm) hjl
   ·rw [if_neg q']; exact apart q' hB hl
  ·simp only [if_neg q]
   rcases look h' with ⟨q2,_⟩ | ⟨q',hB,hl⟩
   ·rw [if_pos q2]; exact fun a ha hb=>apart q hA hj a hb ha
   ·rw [if_neg q']; exact S.dis j l x y o hjl hA hB
 ·rcases look h with ⟨_,z⟩ | ⟨q,hA,_⟩
  ·cases z
  ·simp only [if_neg q]; exact S.old j x hA
theorem SOK.lst {i:Nat} {ds:List D} (S:SOK cl H0 ρ F σ H) (e:ρ[i]?=some (some (.lst ds,true))):∃ a vs f,σ[i]?=some (some (.ref a))∧H a=some (.lst vs)∧F i=a::f∧RepL cl H ds vs f:=by
 refine zz fun P_ k_=>?_
 obtain ⟨v,h1,r⟩:=S.rep i _ _ e
 obtain ⟨a,vs,f,ev,ef,r,h⟩:=r
 refine k_ ?_
 subst ev
 rcases h with h | ⟨o,h⟩
 ·exact ⟨a,vs,f,h1,h,ef,r⟩
 ·exact absurd h (((S.own i _ e).2 a (by rw [ef]; exact za)).2 o _)
open Classical in
noncomputable def reb (H:Hp) (ρ:Env) (F:Nat→List Addr):Hp:=fun a=>if ∃ (j:Nat) (d:D),ρ[j]?=some (some (d,true))∧a∈F j then none else H a
theorem reb_none {a:Addr} {j:Nat} {d:D} (e:ρ[j]?=some (some (d,true))) (ha:a∈F j):reb H ρ F a=none:=by
 unfold reb
 rw [if_pos ⟨j,d,e,ha⟩]
theorem dt {a:Addr} (h:∀ (j:Nat) (d:D),ρ[j]?=some (some (d,true))→a∉F j):reb H ρ F a=H a:=by
 unfold reb
 rw [if_neg fun hh_=>(by obtain ⟨j,d,e,ha⟩:=hh_; exact (h j d e ha))]
noncomputable def Lent (ρ ρl:Env):Prop:=ρl.length=ρ.length∧∀ (j:Nat) (d:D) (o:Bool),ρl[j]?=some (some (d,o))→ρ[j]?=some (some (d,o))∨(o=false∧ρ[j]?=some (some (d,true)))
theorem Lent.get (L:Lent ρ ρl) {j:Nat} {d:D} {o:Bool} (e:ρl[j]?=some (some (d,o))):∃ o',ρ[j]?=some (some (d,o'))∧(o=true→o'=true):=by
 rcases L.2 j d o e with h | ⟨h1,h2⟩
 ·exact ⟨o,h,id⟩
 ·exact ⟨true,h2,fun _=>rfl⟩
theorem SOK.rebase (S:SOK cl H0 ρ F σ H) (L:Lent ρ ρl):SOK cl (reb H ρl F) ρl F σ H:=by
 refine ⟨fun b o h=>?_,S.len.trans L.1.symm,fun j d o h=>?_,fun j d h=>?_,fun i j d e o hij h h'=>?_,fun j d h a ha=>?_⟩
 ·unfold reb at h
  split at h
  ·injection h
  ·exact h
 ·obtain ⟨o',h1,_⟩:=L.get h
  exact S.rep j d o' h1
 ·obtain ⟨o',h1,h2⟩:=L.get h
  have h1:ρ[j]?=some (some (d,true)):=by rw [h1,h2 rfl]
  exact ⟨(S.own j d h1).1,fun a ha=>⟨reb_none h ha,((S.own j d h1).2 a ha).2⟩⟩
 ·obtain ⟨o1,h1,h2⟩:=L.get h
  obtain ⟨o2,h3,_⟩:=L.get h'
  have h1:ρ[i]?=some (some (d,true)):=by rw [h1,h2 rfl]
  exact S.dis i j d e o2 hij h1 h3
 ·obtain ⟨o1,h1,_⟩:=L.get h
  rw [dt fun l x hl hal=>?_]
  ·exact S.dom h1 a ha
  ·obtain ⟨o2,h3,h4⟩:=L.get hl
   have h3:ρ[l]?=some (some (x,true)):=by rw [h3,h4 rfl]
   have hlj:l≠j:=fun q=>by
    rw [q] at hl
    rw [h] at hl
    cases hl
   exact S.dis l j x d o1 hlj h3 h1 a hal ha
set_option tactic.hygienic true in
theorem ee {ws:List Nat} {j:Nat} {x:D × Bool} (h:(rest ρ ρl ρ' ws)[j]?=some (some x)) :
  (¬ (j∉ws∧∃ d,ρl[j]?=some (some (d,false)))∧x.2=true∧ρ'[j]?=some (some x))∨(j∈ws∧x.2=true∧x.1.imm=true∧ρ'[j]?=some (some (x.1,false)))∨(j∉ws∧(∃ d,ρl[j]?=some (some (d,false)))∧ρ[j]?=some (some x)):=by
 unfold rest at h
 rw [rg] at h
 cases e:ρ'[j]? with
 | none=>rw [e] at h; injection h
 | some y =>
  rw [e] at h
  simp only [w8,m7] at h
  by_cases hw:ws.contains j=true
  ·rw [if_pos hw] at h
   have hw':j∈ws:=by simpa using hw
   cases y with
   | none=>injection h
   | some p =>
    obtain ⟨d,o⟩:=p
    cases o with
    | true=>(injection h with h; subst h); exact .inl ⟨fun z=>z.1 hw',rfl,rfl⟩
    | false =>
     simp only at h
     by_cases hd:d.imm=true
     ·rw [if_pos hd] at h
      (injection h with h; subst h)
      exact .inr (.inl ⟨hw',rfl,hd,rfl⟩)
     ·rw [if_neg hd] at h
      injection h
  ·rw [if_neg hw] at h
   have hw':j∉ws:=fun z=>hw (by simpa using z)
   split at h
   ·rename_i d' el
    refine .inr (.inr ⟨hw',⟨d',el⟩, ?_⟩)
    cases q:ρ[j]? with
    | none=>rw [q] at h; injection h
    | some z=>rw [q] at h; simp only at h; rw [h]
   ·rename_i hnl
    cases y with
    | none=>injection h
    | some p =>
     obtain ⟨d,o⟩:=p
     cases o with
     | true=>(injection h with h; subst h); exact .inl ⟨fun z=>let ⟨d',e'⟩:=z.2; hnl d' e',rfl,rfl⟩
     | false=>injection h
theorem SOK.restore {ws:List Nat} (S:SOK cl H0 ρ F σ H) (L:Lent ρ ρl) (S':SOK cl (reb H ρl F) ρ' F' σ' H') (hσ:∀ j,j∉ws→σ'[j]?=σ[j]?) :
  ∃ F'',SOK cl H0 (rest ρ ρl ρ' ws) F'' σ' H':=by
 have sub:∀ {a:Addr},H0 a≠none→reb H ρl F a=H0 a:=fun {a} ha=>by
  cases q:H0 a with
  | none=>exact absurd q ha
  | some o =>
   rw [dt fun l x hl hal=>?_]
   ·exact S.same a o q
   ·obtain ⟨o2,h3,h4⟩:=L.get hl
    have h3:ρ[l]?=some (some (x,true)):=by rw [h3,h4 rfl]
    have:=((S.own l x h3).2 a hal).1
    rw [q] at this
    injection this
 have R:=S.rebase L
 have kept:∀ {j:Nat} {x:D} {o:Bool},(∃ d,ρl[j]?=some (some (d,false)))→ρ[j]?=some (some (x,o))→∀ a∈F j,reb H ρl F a≠none:=fun {j x o} ⟨d,hl⟩ h a ha=>R.old j d hl a ha
 have rebH:∀ {a:Addr},reb H ρl F a≠none→H' a=H a:=fun {a} ha=>by
  have e:reb H ρl F a=H a:=by
   unfold reb at ha ⊢
   split at ha
   ·exact absurd rfl ha
   ·rw [if_neg ‹_›]
  cases q:H a with
  | none=>rw [e] at ha; exact absurd q ha
  | some o=>exact S'.same a o (e.trans q)
 have tups:∀ a vs,H a=some (.tup vs)→H' a=some (.tup vs):=fun a vs h=>by
  have e:reb H ρl F a=H a:=dt fun l x hl hal=>by
   obtain ⟨o2,h3,h4⟩:=L.get hl
   obtain ⟨v,_,r⟩:=S.rep l x o2 h3
   exact r.notup a hal vs h
  exact S'.same a _ (e.trans h)
 refine ⟨fun j=>open Classical in if j∉ws∧(∃ d,ρl[j]?=some (some (d,false))) then F j else F' j, ?_⟩
 refine ⟨fun b o h=>S'.same b o ((sub (by rw [h]; simp)).trans h), ?_,fun j d o h=>?_,fun j d h=>?_,fun i j d e o hij h h'=>?_,fun j d h=>?_⟩
 ·rw [S'.len]
  unfold rest
  simp
 ·rcases ee h with ⟨nk,_,e⟩ | ⟨hw,_,hd,e⟩ | ⟨hw,hl,e⟩
  ·rw [if_neg nk]; exact S'.rep j d o e
  ·rw [if_neg fun z=>z.1 hw]; exact S'.rep j d false e
  ·rw [if_pos ⟨hw,hl⟩]
   obtain ⟨v,h1,r⟩:=S.rep j d o e
   exact ⟨v,by rw [hσ j hw]; exact h1,r.keep ⟨fun a ha=>rebH (kept hl e a ha),tups⟩⟩
 ·rcases ee h with ⟨nk,_,e⟩ | ⟨hw,_,hd,e⟩ | ⟨hw,hl,e⟩
  ·simp only [if_neg nk]
   refine ⟨(S'.own j d e).1,fun a ha=>⟨?_,((S'.own j d e).2 a ha).2⟩⟩
   have z:=((S'.own j d e).2 a ha).1
   cases q:H0 a with
   | none=>rfl
   | some x =>
    have:=sub (a:=a) (by rw [q]; simp)
    rw [z,q] at this
    injection this
  ·simp only [if_neg fun (z:j∉ws∧_)=>z.1 hw]
   obtain ⟨v,_,r⟩:=S'.rep j d false e
   rw [r.imm hd]
   exact ⟨vm,fun a ha=>nomatch ha⟩
  ·simp only [if_pos (⟨hw,hl⟩:j∉ws∧_)]
   refine ⟨(S.own j d e).1,fun a ha=>⟨((S.own j d e).2 a ha).1,fun o u z=>?_⟩⟩
   rw [rebH (kept hl e a ha)] at z
   exact ((S.own j d e).2 a ha).2 o u z
 ·intro a ha hb
  rcases ee h with ⟨nk,_,ei⟩ | ⟨hw,_,hd,ei⟩ | ⟨hw,hl,ei⟩
  ·simp only [if_neg nk] at ha
   have z:=((S'.own i d ei).2 a ha).1
   rcases ee h' with ⟨nk',_,ej⟩ | ⟨hw',_,hd',ej⟩ | ⟨hw',hl',ej⟩
   ·simp only [if_neg nk'] at hb
    exact S'.dis i j d e o hij ei ej a ha hb
   ·simp only [if_neg fun (z:j∉ws∧_)=>z.1 hw'] at hb
    exact S'.dis i j d e false hij ei ej a ha hb
   ·simp only [if_pos (⟨hw',hl'⟩:j∉ws∧_)] at hb
    exact kept hl' ej a hb z
  ·simp only [if_neg fun (z:i∉ws∧_)=>z.1 hw] at ha
   obtain ⟨v,_,r⟩:=S'.rep i d false ei
   rw [r.imm hd] at ha
   cases ha
  ·simp only [if_pos (⟨hw,hl⟩:i∉ws∧_)] at ha
   have z:=kept hl ei a ha
   rcases ee h' with ⟨nk',ho',ej⟩ | ⟨hw',_,hd',ej⟩ | ⟨hw',hl',ej⟩
   ·simp only [if_neg nk'] at hb
    have ho':o=true:=ho'
    subst ho'
    exact z ((S'.own j e ej).2 a hb).1
   ·simp only [if_neg fun (z:j∉ws∧_)=>z.1 hw'] at hb
    obtain ⟨v,_,r⟩:=S'.rep j e false ej
    rw [r.imm hd'] at hb
    cases hb
   ·simp only [if_pos (⟨hw',hl'⟩:j∉ws∧_)] at hb
    exact S.dis i j d e o hij ei ej a ha hb
 ·rcases ee h with ⟨_,z,_⟩ | ⟨_,z,_⟩ | ⟨hw,hl,e⟩
  ·injection z
  ·injection z
  ·simp only [if_pos (⟨hw,hl⟩:j∉ws∧_)]
   exact S.old j d e
end
end Vi
namespace L2
open PySem PySem.Spec PyProof.Rows
section
variable {X:Cx}
theorem lstR {pins : List (Addr × Obj)} {σ : St} {H : Hp} {s : Shared} {l : Addr} {xs : List V} (I : Inv X pins σ H s) (hH : Rd H l (.lst xs)) : xs.length ≤ y4 ∧ ∃ (its : List Value) (n : Nat), Vals xs its ∧ xs.length = its.length ∧ s.heap.get? l = some { cls := .type "list", data := .seq its.toArray n } := by
 obtain ⟨z,its,n,r,e⟩:=hH.ok I.hok
 exact ⟨z,its,n,r,r.length,e⟩
noncomputable def rCatR:R2:=fun x y H Q=>∃ l b xs zs,x=.ref l∧y=.ref b∧Rd H l (.lst xs)∧Rd H b (.lst zs)∧xs.length+zs.length≤y4∧∀ p,H p=none→Q (.ref p) (upd H p (.lst (xs++zs)))
theorem op_catR:OpR X (o4 .Add) rCatR:=by
 intro pins s σ H x y v u Q I rx ry hh_
 obtain ⟨l,b,xs,zs,ex,ey,hH,hB,hz,q⟩:=hh_
 subst ex; subst ey
 subst rx
 subst ry
 obtain ⟨z,its,n,r,hl,e⟩:=lstR I hH
 obtain ⟨z2,its2,n2,r2,hl2,e2⟩:=lstR I hB
 refine PySem.P.add_list e e2 ?_ (by simp only [zn]; (clear I hH hB q z r e z2 r2 e2; omega))
 rw [show its.toArray++its2.toArray=(its++its2).toArray by simp]
 refine ⟨.ref _,_,I.lnew (t':=s.toks) (r.append r2) ?_,rfl,q _ I.fresh⟩
 rw [zl]
 assumption
end
end L2
namespace Vi
open PySem PySem.Spec PyProof.Rows L2
theorem fi {n:Nat} (h:n≤1000000):n≤y4:=by rw [sg]; exact z5 ‹_› (by decide)
end Vi
namespace Vi
open PySem PySem.Spec PyProof.Rows L2
theorem aT {X:Cx} {e:Expr} {t t':TE} (h:PE X e t) (i:∀ σ H Q,t' σ H Q→t σ H Q):PE X e t':=fun pins s σ H Q I q=>h pins s σ H Q I (i σ H Q q)
theorem pt_imp {X:Cx} {e:Expr} {t t':TT} (h:PT X e t) (i:∀ σ H Q,t' σ H Q→t σ H Q):PT X e t':=fun pins s σ H Q I q=>h pins s σ H Q I (i σ H Q q)
theorem pa_imp {X:Cx} {es:List Expr} {t t':TA} (h:PA X es t) (i:∀ σ H Q,t' σ H Q→t σ H Q):PA X es t':=fun pos pins s σ H Q I q=>h pos pins s σ H Q I (i σ H Q q)
inductive tTd (cl:Nat→Addr) (ρ:Env) (c:Bool) (σ:L2.St) (H:Hp) (Q:Bool→Hp→Prop):Prop
 | mk (H0:Hp) (F:Nat→List Addr) (S:SOK cl H0 ρ F σ H) (q:∀ H',Same H H'→Q c H')
section
variable {X:Cx} {cl:Nat→Addr} {ρ:Env} {a b c:Expr} {pos:Pos} {d d1 d2 z:D} {k k1 k2:Kd}
set_option tactic.hygienic true in
theorem e_var {i : Nat} {x : Str} (hN : X.N[i]? = some x) (hv : Vis X.env.scope x) (hd : (x == ("__debug__" : Str)) = false) (hcd : (x == ("__classdict__" : Str)) = false) (h : getV ρ i = .ok (d, k)) : PE X (.Name x pos) (tD cl ρ d k) := by
 refine aT (pe_var hN hv hd hcd) fun σ H Q hh_=>?_
 obtain ⟨H0,F,S,q⟩:=hh_
 unfold getV at h
 split at h
 ·rename_i d' o e
  injection h with h
  obtain ⟨h1,h2⟩:=qr.inj h
  subst h1
  obtain ⟨v,h1,r⟩:=S.rep i d' o e
  refine ⟨v,h1,q v H (F i) (Same.refl H) r ?_⟩
  rw [← h2]
  by_cases hi:d'.imm=true
  ·rw [if_pos hi]; exact KOk.imm r hi
  ·rw [if_neg hi]
   cases o with
   | true =>
    rw [if_pos rfl]
    exact ⟨(S.own i d' e).1,fun j hj=>by rw [ye.mp hj]; exact ⟨d',e⟩,fun a ha=>.inr ⟨i,ye.mpr rfl,ha⟩,fun a ha=>((S.own i d' e).2 a ha).2⟩
   | false=>rw [if_neg y9]; exact S.old i d' e
 ·injection h
theorem e_int {i:Int} {j}:PE X (.Constant (.int i) j pos) (tD cl ρ (.int i) (.sto [])):=aT pe_int fun σ H Q hh_=>(by obtain ⟨_,_,_,q⟩:=hh_; exact (q _ H [] (Same.refl H) ⟨rfl,rfl⟩ KOk.nil0))
theorem e_bl {i:Bool} {j}:PE X (.Constant (.bool i) j pos) (tD cl ρ (.bl i) (.sto [])):=aT pe_bl fun σ H Q hh_=>(by obtain ⟨_,_,_,q⟩:=hh_; exact (q _ H [] (Same.refl H) ⟨rfl,rfl⟩ KOk.nil0))
theorem e_non {j}:PE X (.Constant .none j pos) (tD cl ρ .non (.sto [])):=aT pe_non fun σ H Q hh_=>(by obtain ⟨_,_,_,q⟩:=hh_; exact (q _ H [] (Same.refl H) ⟨rfl,rfl⟩ KOk.nil0))
theorem e_op {op:Operator} {r:R2} (ho:OpR X (o4 op) r) (ha:PE X a (tD cl ρ d1 k1)) (hb:PE X b (tD cl ρ d2 k2))
  (hr:∀ x y H (Q:VK) f g,Rep cl H d1 x f→Rep cl H d2 y g→(∀ v,Rep cl H z v []→Q v H)→r x y H Q):PE X (.BinOp a op b pos) (tD cl ρ z (.sto [])) :=
 aT (pe_op ho ha hb) fun σ H Q hh_=>(by obtain ⟨_,_,S,q⟩:=hh_; exact (tD2 S fun x y H1 H2 f g s1 s2 r1 r2 _ _ _=>hr x y H2 Q f g r1 r2 fun v rv=>q v H2 [] (s1.trans s2) rv KOk.nil0))
theorem e_cmp {op:CmpOp} {r:R2} {t:Bool} (ho:OpR X (wg op) r) (hm:sv op b=false) (ha:PE X a (tD cl ρ d1 k1)) (hb:PE X b (tD cl ρ d2 k2))
  (hr:∀ x y H (Q:VK) f g,Rep cl H d1 x f→Rep cl H d2 y g→Q (.bl t) H→r x y H Q):PE X (.Compare a [op] [b] pos) (tD cl ρ (.bl t) (.sto [])) :=
 aT (pe_cmpR ho ha hb hm) fun σ H Q hh_=>(by obtain ⟨_,_,S,q⟩:=hh_; exact (tD2 S fun x y H1 H2 f g s1 s2 r1 r2 _ _ _=>hr x y H2 Q f g r1 r2 (q _ H2 [] (s1.trans s2) ⟨rfl,rfl⟩ KOk.nil0)))
theorem t_cmp {op:CmpOp} {r:R2} {t:Bool} (ho:OpR X (wg op) r) (hm:sv op b=false) (ha:PE X a (tD cl ρ d1 k1)) (hb:PE X b (tD cl ρ d2 k2))
  (hr:∀ x y H (Q:VK) f g,Rep cl H d1 x f→Rep cl H d2 y g→Q (.bl t) H→r x y H Q):PT X (.Compare a [op] [b] pos) (tTd cl ρ t) :=
 pt_imp (pt_cmpR ho ha hb hm) fun σ H Q hh_=>(by obtain ⟨_,_,S,q⟩:=hh_; exact (tD2 S fun x y H1 H2 f g s1 s2 r1 r2 _ _ _=>hr x y H2 _ f g r1 r2 ⟨t,rfl,q H2 (s1.trans s2)⟩))
noncomputable def opOf:Op→Operator
 | .add=>.Add
 | .sub=>.Sub
 | .mul=>.Mult
 | .fdiv=>.FloorDiv
 | .mod=>.Mod
 | .pow=>.Pow
theorem gO (h:z.imm=true):kdOf z=.sto []:=by
 unfold kdOf
 rw [if_pos]
 cases z <;> first | exact h | (simp [D.imm] at h)
theorem RepL.append {H:Hp}:∀ {l m:List D} {vs ws:List V} {f g:List Addr},RepL cl H l vs f→RepL cl H m ws g→RepL cl H (l++m) (vs++ws) (f++g):=by
 intro x_0
 induction x_0 with
 | nil =>
  intro m vs ws f g h h'
  obtain ⟨h1,h2⟩:=h
  rw [h1,h2]
  exact h'
 | cons d l ih_ =>
  intro m vs ws f g h h'
  obtain ⟨v,vr,f1,f2,e,ef,r1,r2⟩:=h
  subst e; subst ef
  show RepL cl H (d::(l++m)) _ _
  unfold RepL
  exact ⟨v,vr++ws,f1,f2++g,rfl,by rw [wy],r1,ih_ r2 h'⟩
theorem bz {K:ze} {H:Hp} {l:List D} {x:V} {f:List Addr} (r:Rep cl H (.lst l) x f):∃ p vs g,x=.ref p∧SqL K H p vs∧RepL cl H l vs g:=by
 obtain ⟨p,vs,g,e,_,r,h⟩:=r
 refine ⟨p,vs,g,e, ?_,r⟩
 rcases h with h | ⟨o,h⟩
 ·exact .inl (.inl h)
 ·exact .inl (.inr ⟨o,h⟩)
theorem cJ {K:ze} {H:Hp} {l:List D} {x:V} {f:List Addr} (r:Rep cl H (.tup l) x f):∃ p vs,x=.ref p∧SqT K H p vs∧RepL cl H l vs f:=by
 obtain ⟨p,vs,e,h,r⟩:=r
 exact ⟨p,vs,e,.inl (.inl h),r⟩
theorem lst_rd {H:Hp} {l:List D} {x:V} {f:List Addr} (r:Rep cl H (.lst l) x f):∃ p vs g,x=.ref p∧Rd H p (.lst vs)∧RepL cl H l vs g:=by
 obtain ⟨p,vs,g,e,_,r,h⟩:=r
 exact ⟨p,vs,g,e,h,r⟩
theorem i2_ok {α:Type} {f:Int→Int→R α} {d1 d2:D} {z:α} (h:i2 f d1 d2=.ok z):∃ a b,d1=.int a∧d2=.int b∧f a b=.ok z:=by
 cases d1 with
 | int a=>cases d2 with
  | int b=>exact ⟨a,b,rfl,rfl,h⟩
  | _=>injection h
 | _=>injection h
theorem ij {α:Type} {c:Prop} [Decidable c] {x z:α} (h:(if c then R.ok x else R.bad)=.ok z):c∧x=z:=by
 by_cases hc:c
 ·rw [if_pos hc] at h; injection h with h; exact ⟨hc,h⟩
 ·rw [if_neg hc] at h; injection h
theorem e_bin {o:Op} (h:opD o d1 d2=.ok z) (ha:PE X a (tD cl ρ d1 k1)) (hb:PE X b (tD cl ρ d2 k2)):PE X (.BinOp a (opOf o) b pos) (tD cl ρ z (kdOf z)):=by
 cases o with
 | add =>
  cases d1 with
  | int i1 =>
   cases d2 with
   | int j1 =>
    rw [opD_1] at h
    injection h with h; subst h
    rw [gO rfl]
    exact e_op op_add ha hb fun x y H Q f g r1 r2 q=>⟨_,_,r1.1,r2.1,q _ ⟨rfl,rfl⟩⟩
   | _=>injection h
  | lst l =>
   cases d2 with
   | lst m =>
    rw [opD_7] at h
    split at h
    ·rename_i hc
     injection h with h; subst h
     refine aT (pe_op op_catR ha hb) fun σ H Q hh_=>?_
     obtain ⟨H0,F,S,q⟩:=hh_
     refine tD2 S fun x y H1 H2 f g s1 s2 r1 r2 _ _ _=>?_
     obtain ⟨p1,v1,g1,e1,h1,l1⟩:=lst_rd r1
     obtain ⟨p2,v2,g2,e2,h2,l2⟩:=lst_rd r2
     refine ⟨p1,p2,v1,v2,e1,e2,h1,h2,by rw [l1.len,l2.len]; exact fi hc,fun p hp=>?_⟩
     have sn:=Same.new (o:=HO.lst (v1++v2)) hp
     have ll:=(l1.append l2).same sn
     have rr:Rep cl (upd H2 p (.lst (v1++v2))) (.lst (l++m)) (.ref p) (p::(g1++g2)):=by
      unfold Rep
      exact ⟨p,_,_,rfl,rfl,ll,.inl ai⟩
     refine q (.ref p) _ _ ((s1.trans s2).trans sn) rr ?_
     unfold kdOf
     by_cases hi:immL (l++m)=true
     ·rw [if_pos (show (D.lst (l++m)).flat=true from hi)]
      have e0:=ll.imm hi
      rw [e0]
      refine ⟨by simp,fun _ h=>(nomatch h),fun a ha=>.inl ?_,fun a ha o u z=>?_⟩
      ·rw [ye.mp ha]; exact (s1.trans s2).free hp
      ·rw [ye.mp ha,ai] at z; (injection z with z; injection z)
     ·rw [if_neg (show ¬ (D.lst (l++m)).flat=true from hi)]
      exact xm
    ·injection h
   | _=>injection h
  | _=>injection h
 | sub =>
  obtain ⟨i,j,e1,e2,h⟩:=i2_ok h
  subst e1; subst e2
  injection h with h; subst h
  rw [gO rfl]
  exact e_op op_sub ha hb fun x y H Q f g r1 r2 q=>⟨_,_,r1.1,r2.1,q _ ⟨rfl,rfl⟩⟩
 | mul =>
  obtain ⟨i,j,e1,e2,h⟩:=i2_ok h
  subst e1; subst e2
  obtain ⟨hc,h⟩:=ij h
  subst h
  rw [gO rfl]
  exact e_op op_mul ha hb fun x y H Q f g r1 r2 q=>⟨_,_,r1.1,r2.1,hc,q _ ⟨rfl,rfl⟩⟩
 | fdiv =>
  obtain ⟨i,j,e1,e2,h⟩:=i2_ok h
  subst e1; subst e2
  obtain ⟨hc,h⟩:=ij h
  subst h
  rw [gO rfl]
  exact e_op op_fdiv ha hb fun x y H Q f g r1 r2 q=>⟨_,_,r1.1,r2.1,hc,q _ ⟨rfl,rfl⟩⟩
 | mod =>
  obtain ⟨i,j,e1,e2,h⟩:=i2_ok h
  subst e1; subst e2
  obtain ⟨hc,h⟩:=ij h
  subst h
  rw [gO rfl]
  exact e_op op_mod ha hb fun x y H Q f g r1 r2 q=>⟨_,_,r1.1,r2.1,hc,q _ ⟨rfl,rfl⟩⟩
 | pow =>
  obtain ⟨i,j,e1,e2,h⟩:=i2_ok h
  subst e1; subst e2
  obtain ⟨hc,h⟩:=ij h
  subst h
  rw [gO rfl]
  exact e_op op_pow ha hb fun x y H Q f g r1 r2 q=>⟨_,_,r1.1,r2.1,hc,q _ ⟨rfl,rfl⟩⟩
end
end Vi
namespace Vi
open PySem PySem.Spec PyProof.Rows L2
section
variable {X:Cx} {cl:Nat→Addr} {ρ:Env} {a b c e:Expr} {es:List Expr} {pos:Pos} {d d1 d2 z:D} {ds:List D} {k k1 k2 k':Kd}
theorem KOk.post {H H0 H1 H2:Hp} {F:Nat→List Addr} {fp:List Addr} (h:KOk ρ F H H0 H1 fp k) (s:Same H1 H2) (hd:∀ a∈fp,H1 a≠none):KOk ρ F H H0 H2 fp k:=by
 cases k with
 | sto is=>exact ⟨h.1,h.2.1,h.2.2.1,fun a ha=>(h.2.2.2 a ha).same s (hd a ha)⟩
 | old=>exact h
 | bor=>exact h
theorem a_nil:PA X [] (tDs cl ρ [] (.sto [])):=pa_imp bT fun σ H Q hh_=>(by obtain ⟨_,_,_,q⟩:=hh_; exact (q [] H [] (Same.refl H) ⟨rfl,rfl⟩ KOk.nil0))
theorem a_cons (h1:PE X e (tD cl ρ d k)) (h2:PA X es (tDs cl ρ ds k')) (hs:zh (e::es) X.env=(false,eval e X.env)::zh es X.env):PA X (e::es) (tDs cl ρ (d::ds) (combK k k')) :=
 pa_imp (bc h1 h2 hs) fun σ H Q ⟨H0,F,S,q⟩=>⟨H0,F,S,fun x H1 f s1 r1 q1=>⟨H0,F,S.step s1,fun xs H2 g s2 r2 q2 =>
  q (x::xs) H2 (f++g) (s1.trans s2) (by unfold RepL; exact ⟨x,xs,f,g,rfl,rfl,r1.same s2,r2⟩) (KOk.comb S s1 s2 r1.dom q1 q2)⟩⟩
theorem e_tup {x1} (h:PA X es (tDs cl ρ ds k)) (hl:ds.length≤1000000):PE X (.Tuple es x1 pos) (tD cl ρ (.tup ds) k) :=
 aT (pe_tup h) fun σ H Q ⟨H0,F,S,q⟩=>⟨H0,F,S,fun vs H1 fp s1 r1 q1=>⟨by rw [r1.len]; exact fi hl,fun p hp=>by
  have sn:=Same.new (o:=HO.tup vs) hp
  refine q (.ref p) _ fp (s1.trans sn) ?_ (q1.post sn r1.dom)
  unfold Rep
  exact ⟨p,vs,rfl,ai,r1.same sn⟩⟩⟩
theorem e_lst (h:PA X es (tDs cl ρ ds k)) (hl:ds.length≤1000000):PE X (.List es pos) (tD cl ρ (.lst ds) (dispK k)) :=
 aT (pe_lst h) fun σ H Q ⟨H0,F,S,q⟩=>⟨H0,F,S,fun vs H1 fp s1 r1 q1=>⟨by rw [r1.len]; exact fi hl,fun p hp=>by
  have sn:=Same.new (o:=HO.lst vs) hp
  have np:p∉fp:=fun z=>r1.dom p z hp
  refine q (.ref p) _ (p::fp) (s1.trans sn) ?_ ?_
  ·unfold Rep
   exact ⟨p,vs,fp,rfl,rfl,r1.same sn,.inl ai⟩
  ·cases k with
   | old=>exact xm
   | bor=>exact xm
   | sto is =>
    obtain ⟨h1,h2,h3,h4⟩:=q1.post sn r1.dom
    refine ⟨y0.mpr ⟨np,h1⟩,h2,fun a ha=>?_,fun a ha=>?_⟩
    ·rcases y6.mp ha with z | z
     ·rw [z]; exact .inl (s1.free hp)
     ·exact h3 a z
    ·rcases y6.mp ha with z | z
     ·rw [z]; intro o u q'; rw [ai] at q'; (injection q' with q'; injection q')
     ·exact h4 a z⟩⟩
end
end Vi
namespace Vi
open PySem PySem.Spec PyProof.Rows L2
section
variable {X:Cx} {cl:Nat→Addr} {ρ:Env} {a b c e:Expr} {es rest:List Expr} {pos:Pos} {d d1 d2 z:D} {ds:List D} {k k1 k2 k':Kd} {t u:Bool}
theorem gP {α β:Type} {l:List α} {m:List β} (h:l.length=m.length):l.isEmpty=m.isEmpty:=by
 cases l <;> cases m <;> first | rfl | simp at h
theorem tru_rep {K:ze} {H:Hp} {x:V} {f:List Addr} (r:Rep cl H d x f) (h:truD d=.ok t):TruV K x H t:=by
 cases d with
 | non=>(injection h with h; subst h); rw [r.1]; exact rfl
 | bl b=>(injection h with h; subst h); rw [r.1]; exact rfl
 | int i=>(injection h with h; subst h); rw [r.1]; exact rfl
 | str x=>injection h
 | dK l=>injection h
 | dT l=>injection h
 | obj c fs=>injection h
 | lst l =>
  (injection h with h; subst h)
  obtain ⟨p,vs,g,e,h1,h2⟩:=bz (K:=K) r
  rw [e]
  exact .inl ⟨vs,h1,by rw [gP h2.len]⟩
 | tup l =>
  (injection h with h; subst h)
  obtain ⟨p,vs,e,h1,h2⟩:=cJ (K:=K) r
  rw [e]
  exact .inr (.inl ⟨vs,h1,by rw [gP h2.len]⟩)
theorem t_truth (h:PE X a (tD cl ρ d k)) (ht:truD d=.ok t) (he:∀ whole,isTrue a X.env whole=(do let v ← whole; standAt a.pos; holding [v] (truthy v))):PT X a (tTd cl ρ t) :=
 pt_imp (pt_truth h he) fun σ H Q hh_=>(by obtain ⟨H0,F,S,q⟩:=hh_; exact (⟨H0,F,S,fun v H1 fp s1 r1 _=>⟨t,tru_rep r1 ht,q H1 s1⟩⟩))
theorem t_not (h:PT X a (tTd cl ρ t)):PT X (.UnaryOp .Not a pos) (tTd cl ρ (!t)) :=
 pt_imp (pt_not h) fun σ H Q hh_=>(by obtain ⟨H0,F,S,q⟩:=hh_; exact (⟨H0,F,S,fun H1 s1=>q H1 s1⟩))
theorem w_one_and (h:PT X a (tTd cl ρ t)):PW X (.BoolOp .And [a] pos) (tTd cl ρ t):=pw_and1 h
theorem w_one_or (h:PT X a (tTd cl ρ t)):PW X (.BoolOp .Or [a] pos) (tTd cl ρ t):=pw_or1 h
theorem w_and (h:PT X a (tTd cl ρ t)) (h':t=true→PW X (.BoolOp .And (b::rest) pos) (tTd cl ρ u)):PW X (.BoolOp .And (a::b::rest) pos) (tTd cl ρ (t && u)):=by
 intro wh pins s σ H Q I hh_
 obtain ⟨H0,F,S,q⟩:=hh_
 cases t with
 | true=>exact pw_and h (h' rfl) wh pins s σ H Q I ⟨H0,F,S,fun H1 s1=>iteT ⟨H0,F,S.step s1,fun H2 s2=>q H2 (s1.trans s2)⟩⟩
 | false =>
  refine isTrue_and (thn (h pins s σ H (fun b H1=>b=false∧Q false H1) I ⟨H0,F,S,fun H1 s1=>⟨rfl,q H1 s1⟩⟩) fun c s1 hh_=>?_)
  obtain ⟨H1,I1,e,q1⟩:=hh_
  subst e
  exact ⟨H1,I1,q1⟩
theorem w_or (h:PT X a (tTd cl ρ t)) (h':t=false→PW X (.BoolOp .Or (b::rest) pos) (tTd cl ρ u)):PW X (.BoolOp .Or (a::b::rest) pos) (tTd cl ρ (t || u)):=by
 intro wh pins s σ H Q I hh_
 obtain ⟨H0,F,S,q⟩:=hh_
 cases t with
 | false=>exact pw_or h (h' rfl) wh pins s σ H Q I ⟨H0,F,S,fun H1 s1=>iteF ⟨H0,F,S.step s1,fun H2 s2=>q H2 (s1.trans s2)⟩⟩
 | true =>
  refine isTrue_or (thn (h pins s σ H (fun b H1=>b=true∧Q true H1) I ⟨H0,F,S,fun H1 s1=>⟨rfl,q H1 s1⟩⟩) fun c s1 hh_=>?_)
  obtain ⟨H1,I1,e,q1⟩:=hh_
  subst e
  exact ⟨H1,I1,q1⟩
theorem RepL.get {H:Hp}:∀ {l:List D} {vs:List V} {fp:List Addr} {j:Nat} {d:D},RepL cl H l vs fp→l[j]?=some d→∃ v f,vs[j]?=some v∧Rep cl H d v f∧∀ a∈f,a∈fp:=by
 intro x_0
 induction x_0 with
 | nil =>
  intro _ _ _ _ _ e
  simp at e
 | cons x r ih_ =>
  intro vs fp x_3
  cases x_3 with
  | zero =>
   intro d h e
   obtain ⟨v,vr,f,g,ev,ef,h1,h2⟩:=h
   subst ev; subst ef
   (injection e with e; subst e)
   exact ⟨v,f,rfl,h1,fun a ha=>zk _ ha⟩
  | succ j =>
   intro d h e
   obtain ⟨v,vr,f,g,ev,ef,h1,h2⟩:=h
   subst ev; subst ef
   obtain ⟨w,f',e1,e2,e3⟩:=ih_ h2 (show r[j]?=some d by simpa using e)
   exact ⟨w,f',by simpa using e1,e2,fun a ha=>zd _ (e3 a ha)⟩
theorem part_ok {H H0 H1:Hp} {F:Nat→List Addr} {f fp:List Addr} {v:V} (r:Rep cl H1 d v f) (hs:∀ a∈f,a∈fp) (h:KOk ρ F H H0 H1 fp k):KOk ρ F H H0 H1 f (dW d k):=by
 by_cases hi:d.imm=true
 ·cases k <;> (show KOk ρ F H H0 H1 f (if d.imm=true then _ else _); rw [if_pos hi]; exact KOk.imm r hi)
 ·cases k with
  | old=>show KOk ρ F H H0 H1 f (if d.imm=true then _ else _); rw [if_neg hi]; exact fun a ha=>h a (hs a ha)
  | sto is=>show KOk ρ F H H0 H1 f (if d.imm=true then _ else _); rw [if_neg hi]; exact xm
  | bor=>show KOk ρ F H H0 H1 f (if d.imm=true then _ else _); rw [if_neg hi]; exact xm
set_option tactic.hygienic true in
theorem ix_get {l:List D} {i:Int} {z:D} (h:(match atD l.length i with | some k=>(match l[k]? with | some d=>R.ok d | none=>.bad) | none=>.bad)=.ok z):∃ j,atD l.length i=some j∧l[j]?=some z:=by
 cases e:atD l.length i with
 | none=>rw [e] at h; injection h
 | some j =>
  rw [e] at h
  have h:(match l[j]? with | some d=>R.ok d | none=>.bad)=.ok z:=h
  cases e2:l[j]? with
  | none=>rw [e2] at h; injection h
  | some d=>rw [e2] at h; injection h with h; exact ⟨j,rfl,by rw [← h]; exact e2⟩
theorem e_ix (h:ixD d1 d2=.ok z) (ha:PE X a (tD cl ρ d1 k1)) (hb:PE X b (tD cl ρ d2 k2)) (hs:PlainIx b):PE X (.Subscript a b pos) (tD cl ρ z (dW z k1)):=by
 have key:∀ {α:Type} {xs:List α} {i:Int} {j:Nat} {v:α},atD xs.length i=some j→xs[j]?=some v→atI xs i=some v:=fun {α xs i j v} h1 h2=>by
  unfold atI
  rw [show ixN xs.length i=some j from h1]
  exact h2
 cases d1 with
 | lst l =>
  cases d2 with
  | int i =>
   obtain ⟨j,hj,hd⟩:=ix_get h
   refine aT (pe_ix ix_list ha hb hs) fun σ H Q hh_=>?_
   refine zz fun P_ k_=>?_
   obtain ⟨H0,F,S,q⟩:=hh_
   refine k_ ?_
   refine tD2 S fun x y H1 H2 f g s1 s2 r1 r2 dm q1 q2=>?_
   refine zz fun P_ k_=>?_
   obtain ⟨p,vs,f',e,ef,r,hp⟩:=r1
   obtain ⟨v,fv,e1,e2,e3⟩:=r.get hd
   refine k_ ?_
   refine ⟨p,vs,i,v,e,r2.1, ?_,key (by rw [r.len]; exact hj) e1,q v H2 fv (s1.trans s2) e2 (part_ok (fp:=f) e2 (fun a ha=>by rw [ef]; exact z8 _ (e3 a ha)) (q1.post s2 dm))⟩
   exact .inl hp
  | _=>injection h
 | tup l =>
  cases d2 with
  | int i =>
   obtain ⟨j,hj,hd⟩:=ix_get h
   refine aT (pe_ix ix_tup ha hb hs) fun σ H Q hh_=>?_
   refine zz fun P_ k_=>?_
   obtain ⟨H0,F,S,q⟩:=hh_
   refine k_ ?_
   refine tD2 S fun x y H1 H2 f g s1 s2 r1 r2 dm q1 q2=>?_
   refine zz fun P_ k_=>?_
   obtain ⟨p,vs,e,hp,r⟩:=r1
   obtain ⟨v,fv,e1,e2,e3⟩:=r.get hd
   refine k_ ?_
   exact ⟨p,vs,i,v,e,r2.1,.inl (.inl hp),key (by rw [r.len]; exact hj) e1,q v H2 fv (s1.trans s2) e2 (part_ok (fp:=f) e2 e3 (q1.post s2 dm))⟩
  | _=>injection h
 | _=>injection h
noncomputable def spP (cl:Nat→Addr) (m:List D→R D):Sp:=fun vs H Q _=>∃ ds fp r,RepL cl H ds vs fp∧m ds=.ok r∧∀ v H' fp',Same H H'→Rep cl H' r v fp'→fp'.Nodup→(∀ a∈fp',H a=none∧NF H' a)→Q v H'
theorem e_call {m:List D→R D} {kk:Nat} {f:Addr} {fd:x6} {ps:List Str} {x:Str} {p:Pos} (F:FnOk X.prog X.w X.K X.mg X.base CX0 kk f fd ps (spP cl m)) (hr:Room kk X.A) (hg:Gl X x) (hm:X.mg x=some (.ref f))
  (hk:yb X.K (.ref f)=true) (hb:eN X.K fd ps []) (ha:PA X (e::es) (tDs cl ρ ds k)) (h:m ds=.ok z)
  (hd : (x == ("__debug__" : Str)) = false) (he : zh (e :: es) X.env = (false, eval e X.env) :: zh es X.env) (hpl : (backTo pos (zh es X.env)).any (·.1) = false) :
  PE X (.Call (.Name x p) (e::es) [] pos) (tD cl ρ z (.sto [])):=by
 refine aT (pe_call F hr hg hm hk hb .nil pass0 ha hd he hpl) fun σ H Q hh_=>?_
 obtain ⟨H0,F',S,q⟩:=hh_
 refine ⟨H0,F',S,fun vs H1 fp s1 r1 q1=>?_⟩
 refine ⟨ds,fp,z,by rw [xf]; exact r1,h,fun v H2 fp' s2 r2 nd fr=>q v H2 fp' (s1.trans s2) r2 ⟨nd,fun _ z=>(nomatch z),fun a ha=>.inl (s1.free (fr a ha).1),fun a ha=>(fr a ha).2⟩⟩
end
end Vi
namespace Vi
open PySem PySem.Spec PyProof.Rows L2
noncomputable def dG (cl:Nat→Addr) (H0:Hp) (σ:L2.St) (ws:List Nat) (D':Ends):Out→Prop
 | .nx ρ'=>∀ σ' H' F',SOK cl H0 ρ' F' σ' H'→(∀ j,j∉ws→σ'[j]?=σ[j]?)→D'.nx σ' H'
 | .bk ρ'=>∀ σ' H' F',SOK cl H0 ρ' F' σ' H'→(∀ j,j∉ws→σ'[j]?=σ[j]?)→D'.bk σ' H'
 | .ct ρ'=>∀ σ' H' F',SOK cl H0 ρ' F' σ' H'→(∀ j,j∉ws→σ'[j]?=σ[j]?)→D'.ct σ' H'
 | .rt d=>∀ v H' fp,Same H0 H'→Rep cl H' d v fp→fp.Nodup→(∀ a∈fp,H0 a=none∧NF H' a)→D'.rt v H'
 | .ex _=>False
 | .bad=>False
inductive tSd (cl:Nat→Addr) (ρ:Env) (ws:List Nat) (o:Out) (D':Ends) (σ:L2.St) (H:Hp):Prop
 | mk (H0:Hp) (F:Nat→List Addr) (S:SOK cl H0 ρ F σ H) (q:dG cl H0 σ ws D' o)
theorem cz {X:Cx} {st:Stmt} {t t':TS} (h:PS X st t) (i:∀ D σ H,t' D σ H→t D σ H):PS X st t':=fun pins s σ H D I q=>h pins s σ H D I (i D σ H q)
theorem fq {X:Cx} {st:List Stmt} {t t':TS} (h:PSs X st t) (i:∀ D σ H,t' D σ H→t D σ H):PSs X st t':=fun pins s σ H D I q=>h pins s σ H D I (i D σ H q)
section
variable {X:Cx} {cl:Nat→Addr} {ρ ρ':Env} {a b c e:Expr} {es:List Expr} {st:Stmt} {rst:List Stmt} {pos:Pos} {d:D} {k:Kd} {t:Bool} {ws ws':List Nat} {o:Out} {H0:Hp} {σ σ1:L2.St} {D':Ends}
theorem dG.step (h:dG cl H0 σ (ws++ws') D' o) (hs:∀ j,j∉ws→σ1[j]?=σ[j]?):dG cl H0 σ1 ws' D' o:=by
 have fr:∀ {σ':L2.St},(∀ j,j∉ws'→σ'[j]?=σ1[j]?)→∀ j,j∉ws++ws'→σ'[j]?=σ[j]?:=fun {σ'} hw j hj=>(hw j fun z=>hj (zd _ z)).trans (hs j fun z=>hj (zk _ z))
 cases o with
 | nx ρ=>exact fun σ' H' F' S hw=>h σ' H' F' S (fr hw)
 | bk ρ=>exact fun σ' H' F' S hw=>h σ' H' F' S (fr hw)
 | ct ρ=>exact fun σ' H' F' S hw=>h σ' H' F' S (fr hw)
 | rt d=>exact h
 | ex x=>exact h
 | bad=>exact h
theorem dG.sub (h:dG cl H0 σ ws' D' o) (hs:∀ j,j∈ws→j∈ws'):dG cl H0 σ ws D' o:=by
 have fr:∀ {σ':L2.St},(∀ j,j∉ws→σ'[j]?=σ[j]?)→∀ j,j∉ws'→σ'[j]?=σ[j]?:=fun {σ'} hw j hj=>hw j fun z=>hj (hs j z)
 cases o with
 | nx ρ=>exact fun σ' H' F' S hw=>h σ' H' F' S (fr hw)
 | bk ρ=>exact fun σ' H' F' S hw=>h σ' H' F' S (fr hw)
 | ct ρ=>exact fun σ' H' F' S hw=>h σ' H' F' S (fr hw)
 | rt d=>exact h
 | ex x=>exact h
 | bad=>exact h
theorem bt:PS X st (tSd cl ρ ws .bad):=fun _ _ _ _ _ _ hh_=>(by obtain ⟨_,_,_,h⟩:=hh_; exact (h.elim))
theorem s_ex {x:D}:PS X st (tSd cl ρ ws (.ex x)):=fun _ _ _ _ _ _ hh_=>(by obtain ⟨_,_,_,h⟩:=hh_; exact (h.elim))
theorem ss_bad {sts:List Stmt}:PSs X sts (tSd cl ρ ws .bad):=fun _ _ _ _ _ _ hh_=>(by obtain ⟨_,_,_,h⟩:=hh_; exact (h.elim))
theorem ss_ex {sts:List Stmt} {x:D}:PSs X sts (tSd cl ρ ws (.ex x)):=fun _ _ _ _ _ _ hh_=>(by obtain ⟨_,_,_,h⟩:=hh_; exact (h.elim))
theorem ss_nil:PSs X [] (tSd cl ρ [] (.nx ρ)):=fq pss_nil fun D σ H hh_=>(by obtain ⟨H0,F,S,q⟩:=hh_; exact (q σ H F S fun _ _=>rfl))
theorem ss_cons {f:Env→Out} (h1:PS X st (tSd cl ρ ws o)) (h2:∀ ρ',o=.nx ρ'→PSs X rst (tSd cl ρ' ws' (f ρ'))):PSs X (st::rst) (tSd cl ρ (ws++ws') (o.bind f)):=by
 have sub:∀ j,j∈ws→j∈ws++ws':=fun j hj=>zk _ hj
 cases o with
 | nx ρ'=>exact fq (eX h1 (h2 ρ' rfl)) fun D σ H ⟨H0,F,S,q⟩=>⟨H0,F,S,fun σ' H' F' S' hs=>⟨H0,F',S',dG.step q hs⟩⟩
 | bk ρ'=>exact fq (eX h1 dU) fun D σ H ⟨H0,F,S,q⟩=>⟨H0,F,S,dG.sub (D':=D) q sub⟩
 | ct ρ'=>exact fq (eX h1 dU) fun D σ H ⟨H0,F,S,q⟩=>⟨H0,F,S,dG.sub (D':=D) q sub⟩
 | rt d=>exact fq (eX h1 dU) fun D σ H ⟨H0,F,S,q⟩=>⟨H0,F,S,q⟩
 | ex x=>exact ss_ex
 | bad=>exact ss_bad
theorem s_set {i:Nat} (h:PS X st (tAsg (tD cl ρ d k) (fA i))) (e:aN ρ i d k=some ρ'):PS X st (tSd cl ρ [i] (.nx ρ')) :=
 cz h fun D σ H ⟨H0,F,S,q⟩=>⟨H0,F,S,fun v H1 fp s1 r1 q1=>by
  obtain ⟨F',S'⟩:=S.set s1 r1 q1 e
  exact q _ H1 F' S' fun j hj=>yu fun z=>hj (by rw [z]; exact ye.mpr rfl)⟩
theorem s_ret (h:PE X e (tD cl ρ d k)):PS X (.Return (some e) pos) (tSd cl ρ [] (retK d k)):=by
 cases k with
 | old=>exact bt
 | bor=>exact bt
 | sto is=>exact cz (ps_ret h) fun D σ H ⟨H0,F,S,q⟩=>⟨H0,F,S,fun v H1 fp s1 r1 hh_=>(by obtain ⟨n1,o1,m1,z1⟩:=hh_; exact (q v H1 fp (S.same.trans s1) r1 n1 fun a ha=>⟨by
   rcases m1 a ha with z | ⟨l,hl,z⟩
   ·exact S.same.free z
   ·obtain ⟨dl,el⟩:=o1 l hl
    exact ((S.own l dl el).2 a z).1,z1 a ha⟩))⟩
theorem s_if {sa sb:List Stmt} {oa ob:Out} (hc:PT X c (tTd cl ρ t)) (ha:t=true→PSs X sa (tSd cl ρ ws oa)) (hb:t=false→PSs X sb (tSd cl ρ ws' ob)) :
  PS X (.If c sa sb pos) (tSd cl ρ (ws++ws') (if t=true then oa else ob)):=by
 cases t with
 | true=>exact cz (ps_if hc (ha rfl) dU) fun D σ H ⟨H0,F,S,q⟩=>⟨H0,F,S,fun H1 s1=>by
   rw [if_pos rfl] at q ⊢
   exact ⟨H0,F,S.step s1,dG.sub q fun j hj=>zk _ hj⟩⟩
 | false=>exact cz (ps_if hc dU (hb rfl)) fun D σ H ⟨H0,F,S,q⟩=>⟨H0,F,S,fun H1 s1=>by
   rw [if_neg y9] at q ⊢
   exact ⟨H0,F,S.step s1,dG.sub q fun j hj=>zd _ hj⟩⟩
theorem s_expr (h:PE X e (tD cl ρ d k)) (hs:ug e none pos.line X.env=pure false):PS X (.Expr e pos) (tSd cl ρ [] (.nx ρ)) :=
 cz (bn h hs) fun D σ H hh_=>(by obtain ⟨H0,F,S,q⟩:=hh_; exact (⟨H0,F,S,fun v H1 fp s1 r1 _=>q σ H1 F (S.step s1) fun _ _=>rfl⟩))
theorem s_whl {body:List Stmt} {cond:Env→R Bool} {f:Env→Out} {n:Nat} (hp:xt (model X.prog X.w) X.A X.env X.xe) (hc:∀ ρ t,cond ρ=.ok t→PT X c (tTd cl ρ t)) (hb:∀ ρ,PSs X body (tSd cl ρ ws (f ρ))) :
  PS X (.While c body [] pos) (tSd cl ρ ws (whlL cond f n ρ)):=by
 have hc':PT X c (fun σ H Q=>∃ ρ t,cond ρ=.ok t∧tTd cl ρ t σ H Q):=fun pins s σ H Q I ⟨ρ,t,e,h⟩=>hc ρ t e pins s σ H Q I h
 have hb':PSs X body (fun D σ H=>∃ ρ,tSd cl ρ ws (f ρ) D σ H):=fun pins s σ H Q I ⟨ρ,h⟩=>hb ρ pins s σ H Q I h
 refine cz (ps_while hp hc' hb') fun D σ H hh_=>?_
 obtain ⟨H0,F,S,q⟩:=hh_
 refine ⟨fun m σ' H'=>∃ ρ' F',SOK cl H0 ρ' F' σ' H'∧whlL cond f m ρ'=whlL cond f n ρ∧∀ j,j∉ws→σ'[j]?=σ[j]?,⟨n,ρ,F,S,rfl,fun _ _=>rfl⟩, ?_⟩
 rintro m σ' H' ⟨ρ',F',S',e,hs⟩
 rw [← e] at q
 cases m with
 | zero=>exact (show False from q).elim
 | succ m =>
  cases hcd:cond ρ' with
  | bad=>simp only [whlL,hcd] at q; exact (show False from q).elim
  | ex x=>simp only [whlL,hcd] at q; exact (show False from q).elim
  | ok t =>
   refine ⟨ρ',t,hcd,H0,F',S',fun H1 s1=>?_⟩
   cases t with
   | false =>
    rw [if_neg y9]
    simp only [whlL,hcd] at q
    exact q σ' H1 F' (S'.step s1) hs
   | true =>
    rw [if_pos rfl]
    refine ⟨fun σ2 H2=>∃ ρ2 F2,SOK cl H0 ρ2 F2 σ2 H2∧whlL cond f m ρ2=whlL cond f n ρ∧∀ j,j∉ws→σ2[j]?=σ[j]?,fun σ2 H2 h=>⟨m,rj m,h⟩,ρ',H0,F',S'.step s1, ?_⟩
    have e2:whlL cond f (m+1) ρ'=whlL cond f n ρ:=e
    cases hf:f ρ' with
    | nx ρ2 =>
     simp only [whlL,hcd,hf] at e2
     exact fun σ2 H2 F2 S2 h2=>⟨ρ2,F2,S2,e2,fun j hj=>(h2 j hj).trans (hs j hj)⟩
    | ct ρ2 =>
     simp only [whlL,hcd,hf] at e2
     exact fun σ2 H2 F2 S2 h2=>⟨ρ2,F2,S2,e2,fun j hj=>(h2 j hj).trans (hs j hj)⟩
    | bk ρ2 =>
     simp only [whlL,hcd,hf] at q
     exact fun σ2 H2 F2 S2 h2=>q σ2 H2 F2 S2 fun j hj=>(h2 j hj).trans (hs j hj)
    | rt x=>simp only [whlL,hcd,hf] at q; exact q
    | ex x=>simp only [whlL,hcd,hf] at q; exact q
    | bad=>simp only [whlL,hcd,hf] at q; exact q
end
end Vi
namespace Vi
open PySem PySem.Spec PyProof.Rows L2
section
variable {cl:Nat→Addr} {H0 H H1 Hb:Hp} {ρ ρl ρ1:Env} {F:Nat→List Addr} {σ:L2.St} {k:Kd} {fp:List Addr}
theorem fu (ρ:Env) (k:Kd):Lent ρ (ao ρ k):=by
 cases k with
 | old=>exact ⟨rfl,fun _ _ _ h=>.inl h⟩
 | bor=>exact ⟨rfl,fun _ _ _ h=>.inl h⟩
 | sto is =>
  refine ⟨by simp [ao],fun j d o h=>?_⟩
  simp only [ao] at h
  rw [rg] at h
  cases e:ρ[j]? with
  | none=>rw [e] at h; cases h
  | some y =>
   rw [e] at h
   simp only [w8,m7] at h
   by_cases hj:is.contains j=true
   ·rw [if_pos hj] at h
    cases y with
    | none=>cases h
    | some p =>
     obtain ⟨d',o'⟩:=p
     cases h
     cases o' with
     | true=>exact .inr ⟨rfl,rfl⟩
     | false=>exact .inl rfl
   ·rw [if_neg hj] at h
    rw [h]
    exact .inl rfl
theorem lent_off {is:List Nat} {j:Nat} {d:D} (h:(ao ρ (.sto is))[j]?=some (some (d,true))):j∉is:=fun hj=>by
 simp only [ao] at h
 rw [rg] at h
 cases e:ρ[j]? with
 | none=>rw [e] at h; injection h
 | some y =>
  rw [e] at h
  simp only [w8,m7] at h
  rw [if_pos (by simpa using hj)] at h
  cases y with
  | none=>injection h
  | some p=>obtain ⟨d',o'⟩:=p; cases h
theorem walk_off (S:SOK cl H0 ρ F σ H) (hk:KOk ρ F H H0 H1 fp k) (hn:noBor k=true) (s1:Same H H1):∀ b∈fp,reb H1 (ao ρ k) F b=H1 b:=fun b hb=>dt fun l x hl hal=>by
 have L:=fu ρ k
 obtain ⟨o2,h3,h4⟩:=L.get hl
 have h3:ρ[l]?=some (some (x,true)):=by rw [h3,h4 rfl]
 cases k with
 | bor=>injection hn
 | old=>exact hk b hb ((S.own l x h3).2 b hal).1
 | sto is =>
  rcases hk.2.2.1 b hb with z | ⟨i,hi,z⟩
  ·exact S.dom h3 b hal z
  ·obtain ⟨di,ei⟩:=hk.2.1 i hi
   have hli:l≠i:=fun q=>lent_off (q ▸ hl) hi
   exact S.dis l i x di true hli h3 ei b hal z
theorem dP (S:SOK cl H0 ρ F σ H) (L:Lent ρ ρl) {a:Addr} (ha:H0 a≠none):reb H ρl F a=H0 a:=by
 cases q:H0 a with
 | none=>exact absurd q ha
 | some o =>
  rw [dt fun l x hl hal=>?_]
  ·exact S.same a o q
  ·obtain ⟨o2,h3,h4⟩:=L.get hl
   have h3:ρ[l]?=some (some (x,true)):=by rw [h3,h4 rfl]
   have:=((S.own l x h3).2 a hal).1
   rw [q] at this
   injection this
theorem reb_tup (S:SOK cl H0 ρ F σ H) (L:Lent ρ ρl) {a:Addr} {vs:List V} (h:H a=some (.tup vs)):reb H ρl F a=some (.tup vs):=by
 rw [dt fun l x hl hal=>?_]
 ·exact h
 ·obtain ⟨o2,h3,h4⟩:=L.get hl
  obtain ⟨v,_,r⟩:=S.rep l x o2 h3
  exact r.notup a hal vs h
theorem SOK.item {d:D} {x:V} {f:List Addr} {i:Nat} (S:SOK cl Hb ρ F σ H) (r:Rep cl H d x f) (ho:∀ a∈f,Hb a≠none) (e:cn ρ [i] true d .old=some ρ1):∃ F',SOK cl Hb ρ1 F' (σ.set i (some x)) H:=by
 refine S.set (Same.refl H) r ?_ (show aN ρ i d (dW d .old)=some ρ1 from e)
 show KOk ρ F H Hb H f (if d.imm=true then .sto [] else .old)
 by_cases hi:d.imm=true
 ·rw [if_pos hi]; exact KOk.imm r hi
 ·rw [if_neg hi]; exact ho
theorem SOK.setImm {d:D} {x:V} {f:List Addr} {i:Nat} (S:SOK cl Hb ρ F σ H) (r:Rep cl H d x f) (hi:d.imm=true):∃ F',SOK cl Hb (ρ.set i (some (d,true))) F' (σ.set i (some x)) H:=by
 by_cases h:i < ρ.length
 ·exact S.set (k:=.sto []) (Same.refl H) r (KOk.imm r hi) (by unfold aN; rw [if_pos h]; rfl)
 ·have h':¬ i < σ.length:=by rw [S.len]; exact h
  rw [List.set_eq_of_length_le (by exact t9.mp ‹_›),List.set_eq_of_length_le (by exact t9.mp ‹_›)]
  exact ⟨F,S⟩
theorem SOK.setImms:∀ {tg:List Nat} {ds:List D} {vs:List V} {f:List Addr} {ρ:Env} {F:Nat→List Addr} {σ:L2.St},SOK cl Hb ρ F σ H→RepL cl H ds vs f→immL ds=true →
  ∃ F',SOK cl Hb ((tg.zip ds).foldl (fun t p=>t.set p.1 (some (p.2,true))) ρ) F' ((tg.zip vs).foldl (fun t p=>t.set p.1 (some p.2)) σ) H:=by
 intro x_0
 induction x_0 with
 | nil =>
  intro ds vs f ρ F σ S _ _
  exact ⟨F,by simpa using S⟩
 | cons i tg ih_ =>
  intro x_1
  cases x_1 with
  | nil =>
   intro vs f ρ F σ S r _
   obtain ⟨e,_⟩:=r
   subst e
   exact ⟨F,by simpa using S⟩
  | cons d ds =>
   intro vs f ρ F σ S r hi
   obtain ⟨v,vr,f1,f2,e,ef,r1,r2⟩:=r
   subst e
   have hi':d.imm=true∧immL ds=true:=by simpa [immL] using hi
   obtain ⟨F1,S1⟩:=S.setImm (i:=i) r1 hi'.1
   exact ih_ S1 r2 hi'.2
end
noncomputable def gNames:List Nat→TGs
 | []=>gNil
 | i::r=>gCons (fA i) (gNames r)
theorem SOK.setParts:∀ {tg:List Nat} {ds:List D} {vs:List V} {f:List Addr} {ρ ρ1:Env} {F:Nat→List Addr} {σ:L2.St},SOK cl Hb ρ F σ H→RepL cl H ds vs f→(∀ a∈f,Hb a≠none)→d4 ρ tg ds=some ρ1 →
  ∃ F',SOK cl Hb ρ1 F' ((tg.zip vs).foldl (fun t p=>t.set p.1 (some p.2)) σ) H:=by
 intro tg
 induction tg with
 | nil =>
  intro ds vs f ρ ρ1 F σ S _ _ e
  injection e with e
  subst e
  exact ⟨F,S⟩
 | cons i tg ih =>
  intro ds
  cases ds with
  | nil =>
   intro vs f ρ ρ1 F σ S r _ e
   injection e with e
   subst e
   obtain ⟨ev,_⟩:=r
   subst ev
   exact ⟨F,S⟩
  | cons d ds =>
   intro vs f ρ ρ1 F σ S r ho e
   refine zz fun P_ k_=>?_
   obtain ⟨v,vr,f1,f2,ev,ef,r1,r2⟩:=r
   refine k_ ?_
   subst ev; subst ef
   have e:(match aN ρ i d (dW d .old) with | some ρ'=>d4 ρ' tg ds | none=>none)=some ρ1:=e
   cases hb:aN ρ i d (dW d .old) with
   | none=>rw [hb] at e; injection e
   | some ρ' =>
    rw [hb] at e
    obtain ⟨F1,S1⟩:=S.item (i:=i) r1 (fun a ha=>ho a (zk _ ha)) hb
    exact ih S1 r2 (fun a ha=>ho a (zd _ ha)) e
theorem gNames_ok:∀ {tg:List Nat} {vs:List V} {σ:L2.St} {H:Hp} {Q:L2.St→Hp→Prop},vs.length=tg.length→Q ((tg.zip vs).foldl (fun t p=>t.set p.1 (some p.2)) σ) H→gNames tg vs σ H Q:=by
 intro x_0
 induction x_0 with
 | nil =>
  intro x_1
  cases x_1 with
  | nil =>
   intro _ _ _ _ q
   exact ⟨rfl,q⟩
  | cons _ _ =>
   intro _ _ _ h _
   simp at h
 | cons i tg ih_ =>
  intro x_1
  cases x_1 with
  | nil =>
   intro _ _ _ h _
   simp at h
  | cons v vs =>
   intro σ H Q h q
   exact ⟨v,vs,rfl,ih_ (by simpa using h) q⟩
theorem set_frame:∀ {tg:List Nat} {vs:List V} {σ:L2.St} {j:Nat},j∉tg→((tg.zip vs).foldl (fun t p=>t.set p.1 (some p.2)) σ)[j]?=σ[j]?:=by
 intro x_0
 induction x_0 with
 | nil =>
  intro _ _ _ _
  simp
 | cons i tg ih_ =>
  intro x_1
  cases x_1 with
  | nil =>
   intro _ _ _
   simp
  | cons v vs =>
   intro σ j h
   show ((tg.zip vs).foldl _ (σ.set i (some v)))[j]?=_
   rw [ih_ (fun z=>h (z8 _ z)),yu fun z=>h (by rw [z]; exact za)]
theorem set_len:∀ {l:List (Nat × V)} {σ:L2.St},(l.foldl (fun t p=>t.set p.1 (some p.2)) σ).length=σ.length:=by
 intro x_0
 induction x_0 with
 | nil =>
  intro _
  exact rfl
 | cons p r ih_ =>
  intro σ
  exact (ih_).trans on
noncomputable def dn (cl:Nat→Addr) (tg:List Nat) (one:Bool) (g:TG):Prop :=
 ∀ (Hb:Hp) (ρ ρ1:Env) (F:Nat→List Addr) (σ:L2.St) (H:Hp) (x:V) (d:D) (f:List Addr),SOK cl Hb ρ F σ H→Rep cl H d x f→(∀ a∈f,Hb a≠none)→cn ρ tg one d .old=some ρ1 →
  ∀ Q:L2.St→Hp→Prop,(∀ σ2 F2,SOK cl Hb ρ1 F2 σ2 H→σ2.length=σ.length→(∀ j,j∉tg→σ2[j]?=σ[j]?)→Q σ2 H)→g x σ H Q
theorem aG {cl:Nat→Addr} {i:Nat}:dn cl [i] true (fA i):=fun Hb ρ ρ1 F σ H x d f S r ho e Q q=>by
 obtain ⟨F',S'⟩:=S.item r ho e
 exact q _ F' S' on fun j hj=>yu fun z=>hj (by rw [z]; exact ye.mpr rfl)
theorem jJ {cl:Nat→Addr} {K:ze} {tg:List Nat}:dn cl tg false (gTup K tg.length (gNames tg)):=fun Hb ρ ρ1 F σ H x d f S r ho e Q q=>by
 cases d with
 | tup ds =>
  have e:(if ds.length=tg.length∧(D.tup ds).imm=true then some ((tg.zip ds).foldl (fun t p=>t.set p.1 (some (p.2,true))) ρ) else if ds.length=tg.length then d4 ρ tg ds else none)=some ρ1:=e
  split at e
  ·rename_i hc
   injection e with e
   subst e
   obtain ⟨a,vs,ev,ha,r⟩:=r
   have hi:immL ds=true:=hc.2
   obtain ⟨F',S'⟩:=SOK.setImms (tg:=tg) S r hi
   exact ⟨a,vs,ev,.inl (.inl ha),by rw [r.len]; exact hc.1,gNames_ok (by rw [r.len]; exact hc.1) (q _ F' S' set_len fun j hj=>set_frame hj)⟩
  ·split at e
   ·rename_i hc
    obtain ⟨a,vs,ev,ha,r⟩:=r
    obtain ⟨F',S'⟩:=SOK.setParts (tg:=tg) S r ho e
    exact ⟨a,vs,ev,.inl (.inl ha),by rw [r.len]; exact hc,gNames_ok (by rw [r.len]; exact hc) (q _ F' S' set_len fun j hj=>set_frame hj)⟩
   ·injection e
 | non=>injection e
 | bl _=>injection e
 | int _=>injection e
 | str _=>injection e
 | lst _=>injection e
 | dK _=>injection e
 | dT _=>injection e
 | obj _ _=>injection e
inductive FW (cl:Nat→Addr) (B:Hp) (t:Env→D→Out) (xs:List D) (R0:Out) (ws:List Nat) (σ:L2.St) (i:Nat) (σ':L2.St) (H':Hp):Prop
 | mk (ρi:Env) (Fi:Nat→List Addr) (S:SOK cl B ρi Fi σ' H') (e:forL t (xs.drop i) ρi=R0) (fr:∀ j,j∉ws→σ'[j]?=σ[j]?)
section
variable {X:Cx} {cl:Nat→Addr} {H0 H H1:Hp} {ρ:Env} {F:Nat→List Addr} {σ:L2.St} {k:Kd} {tg wb:List Nat} {one:Bool} {g:TG} {f:Env→Out} {xs:List D} {D':Ends} {J:It}
theorem jB (S1:SOK cl H0 ρ F σ H1) (hB:dn cl tg one g)
  (hgo:∀ i H',Same (reb H1 (ao ρ k) F) H'→i < xs.length→J.go i H')
  (hyd:∀ i H' x H'',Same (reb H1 (ao ρ k) F) H'→J.yld i H' x H''→i < xs.length→Same H' H''∧∃ d fd,xs[i]?=some d∧Rep cl H'' d x fd∧∀ b∈fd,reb H1 (ao ρ k) F b≠none)
  (hst:∀ i H',Same (reb H1 (ao ρ k) F) H'→xs.length≤i→J.stop i H')
  (q:dG cl H0 σ (tg++wb) D' (fS ρ (ao ρ k) (tg++wb) (forL (bC tg one f) xs (ao ρ k)))) :
  ∃ W:Nat→Nat→L2.St→Hp→Prop,(∃ m,W 0 m σ H1)∧∀ i m σ H,W i m σ H →
   (J.stop i H∧D'.nx σ H)∨(J.go i H∧∃ N:L2.St→Hp→Prop,(∀ σ' H',N σ' H'→∃ m',m' < m∧W (i+1) m' σ' H') ∧
    ∀ x H',J.yld i H x H'→g x σ H' fun σ2 H2=>∃ ρ2,tSd cl ρ2 wb (f ρ2) { D' with nx:=N,ct:=N,bk:=D'.nx } σ2 H2):=by
 have L:=fu ρ k
 have R:=S1.rebase L
 have back:∀ {ρ':Env} {F':Nat→List Addr} {σ':L2.St} {H':Hp},SOK cl (reb H1 (ao ρ k) F) ρ' F' σ' H'→(∀ j,j∉tg++wb→σ'[j]?=σ[j]?)→dG cl H0 σ (tg++wb) D' (.nx (rest ρ (ao ρ k) ρ' (tg++wb)))→D'.nx σ' H':=fun {ρ' F' σ' H'} S' fr q=>by
  obtain ⟨F'',S''⟩:=S1.restore L S' fr
  exact q σ' H' F'' S'' fr
 refine ⟨fun i m σ' H'=>m=xs.length - i∧i≤xs.length∧FW cl (reb H1 (ao ρ k) F) (bC tg one f) xs (forL (bC tg one f) xs (ao ρ k)) (tg++wb) σ i σ' H',
  ⟨xs.length,rfl,xc _,ao ρ k,F,R,rfl,fun _ _=>rfl⟩, ?_⟩
 intro i m σ' H' hh_
 refine zz fun P_ k_=>?_
 obtain ⟨em,hi,hh_⟩:=hh_
 obtain ⟨ρi,Fi,Si,e,fr⟩:=hh_
 refine k_ ?_
 subst em
 by_cases hlt:i < xs.length
 ·refine .inr ⟨hgo i H' Si.same hlt,FW cl (reb H1 (ao ρ k) F) (bC tg one f) xs (forL (bC tg one f) xs (ao ρ k)) (tg++wb) σ (i+1),
   fun σ2 H2 h=>⟨xs.length - (i+1),by (clear S1 hB hgo hyd hst q L R back hi Si e fr h; omega),rfl,hlt,h⟩,fun x H'' y=>?_⟩
  refine zz fun P_ k_=>?_
  obtain ⟨eH,d,fd,ed,rd,hd⟩:=hyd i H' x H'' Si.same y hlt
  refine k_ ?_
  have Si:=Si.step eH
  have edrop:xs.drop i=d::xs.drop (i+1):=by
   rw [vq hlt]
   rw [z9 hlt] at ed
   rw [yy ed]
  rw [edrop] at e
  rw [← e] at q
  cases hb:cn ρi tg one d .old with
  | none =>
   have ht:bC tg one f ρi d=.bad:=by unfold bC; rw [hb]
   simp only [forL,ht] at q
   exact (show False from q).elim
  | some ρ1 =>
   have ht:bC tg one f ρi d=f ρ1:=by unfold bC; rw [hb]
   refine hB _ ρi ρ1 Fi σ' H'' x d fd Si rd hd hb _ fun σ2 F2 S2 _ fr2=>⟨ρ1,_,F2,S2, ?_⟩
   have fr3:∀ {σ3:L2.St},(∀ j,j∉wb→σ3[j]?=σ2[j]?)→∀ j,j∉tg++wb→σ3[j]?=σ[j]?:=fun {σ3} h3 j hj =>
    ((h3 j fun z=>hj (zd _ z)).trans (fr2 j fun z=>hj (zk _ z))).trans (fr j hj)
   cases hf:f ρ1 with
   | nx ρ2 =>
    simp only [forL,ht,hf] at e
    exact fun σ3 H3 F3 S3 h3=>⟨ρ2,F3,S3,e,fr3 h3⟩
   | ct ρ2 =>
    simp only [forL,ht,hf] at e
    exact fun σ3 H3 F3 S3 h3=>⟨ρ2,F3,S3,e,fr3 h3⟩
   | bk ρ2 =>
    simp only [forL,ht,hf] at q
    exact fun σ3 H3 F3 S3 h3=>back S3 (fr3 h3) q
   | rt x =>
    simp only [forL,ht,hf] at q
    refine fun v H3 fp s3 r3 n3 h3=>q v H3 fp (fun b o hbo=>s3 b o ((dP S1 L (by rw [hbo]; simp)).trans hbo)) r3 n3 fun a ha=>⟨?_,(h3 a ha).2⟩
    have z:=(h3 a ha).1
    cases qa:H0 a with
    | none=>rfl
    | some y =>
     have:=dP S1 L (a:=a) (by rw [qa]; simp)
     rw [z,qa] at this
     injection this
   | ex x=>simp only [forL,ht,hf] at q; exact (show False from q).elim
   | bad=>simp only [forL,ht,hf] at q; exact (show False from q).elim
 ·have ei:i=xs.length:=by (clear S1 hB hgo hyd hst q L R back Si e fr; omega)
  refine .inl ⟨hst i H' Si.same (by exact t9.mp ‹_›), ?_⟩
  subst ei
  rw [List.drop_length] at e
  rw [← e] at q
  exact back Si fr q
end
end Vi
namespace Vi
open PySem PySem.Spec PyProof.Rows L2
section
variable {X:Cx} {cl:Nat→Addr} {H0 H H1:Hp} {ρ:Env} {F:Nat→List Addr} {σ:L2.St} {k:Kd} {tg:List Nat} {one:Bool} {g:TG} {xs:List D} {J:It}
theorem SOK.allOld (S:SOK cl H0 ρ F σ H1):SOK cl H1 (ρ.map fun e=>e.map fun p=>(p.1,false)) F σ H1:=by
 have look:∀ {j:Nat} {d:D} {o:Bool},(ρ.map fun e=>e.map fun (p:D × Bool)=>(p.1,false))[j]?=some (some (d,o))→o=false∧∃ o',ρ[j]?=some (some (d,o')):=fun {j d o} h=>by
  rw [yn] at h
  cases e:ρ[j]? with
  | none=>rw [e] at h; injection h
  | some y =>
   rw [e] at h
   cases y with
   | none=>(injection h with h; injection h)
   | some p=>obtain ⟨d',o'⟩:=p; cases h; exact ⟨rfl,o',rfl⟩
 refine ⟨Same.refl _,by simpa using S.len,fun j d o h=>?_,fun j d h=>?_,fun i j d e o hij h h'=>?_,fun j d h=>?_⟩
 ·obtain ⟨_,o',e⟩:=look h
  exact S.rep j d o' e
 ·cases (look h).1
 ·cases (look h).1
 ·obtain ⟨_,o',e⟩:=look h
  exact S.dom e
theorem SOK.frame {σ':L2.St} (S:SOK cl H0 ρ F σ H) (hl:σ'.length=σ.length) (h:∀ (i:Nat) (x:D × Bool),ρ[i]?=some (some x)→σ'[i]?=σ[i]?):SOK cl H0 ρ F σ' H :=
 ⟨S.same,hl.trans S.len,fun i d o e=>by obtain ⟨v,h1,r⟩:=S.rep i d o e; exact ⟨v,by rw [h i _ e]; exact h1,r⟩,S.own,S.dis,S.old⟩
theorem forget_frame:∀ {ow:List Nat} {σ:L2.St} {j:Nat},j∉ow→(dB ow σ)[j]?=σ[j]?:=by
 intro x_0
 induction x_0 with
 | nil =>
  intro _ _ _
  exact rfl
 | cons i r ih_ =>
  intro σ j h
  show (dB r (σ.set i none))[j]?=_
  rw [ih_ fun z=>h (z8 _ z),yu fun z=>h (by rw [z]; exact za)]
theorem ip {j:Nat} {x:D × Bool} (h:(inComp ρ tg)[j]?=some (some x)):j∉tg:=(cM h).2
theorem SOK.inComp (S:SOK cl H0 ρ F σ H1):SOK cl H1 (inComp ρ tg) F (dB tg σ) H1 :=
 SOK.frame (S.allOld.drop tg) (eC _ _) fun i x e=>forget_frame (ip e)
theorem RepL.snoc {H:Hp} {l:List D} {vs:List V} {f g:List Addr} {d:D} {v:V} (h:RepL cl H l vs f) (r:Rep cl H d v g):RepL cl H (l++[d]) (vs++[v]) (f++g):=by
 refine h.append ?_
 unfold RepL
 exact ⟨v,[],g,[],rfl,by simp,r,by unfold RepL; exact ⟨rfl,rfl⟩⟩
theorem compL_cons {f:D→R (Option (D × Kd))} {d:D} {r rs:List D} {b:Bool} (h:bZ f (d::r)=.ok (rs,b)):(f d=.ok none∧bZ f r=.ok (rs,b)) ∨
  ∃ y k rs' b',f d=.ok (some (y,k))∧bZ f r=.ok (rs',b')∧rs=y::rs'∧(k=.sto []∧b=b'∨k=.old∧b=false):=by
 cases hd:f d with
 | ok o =>
  cases o with
  | none=>simp only [bZ,hd] at h; exact .inl ⟨rfl,h⟩
  | some yk =>
   obtain ⟨y,k⟩:=yk
   cases k with
   | bor=>simp only [bZ,hd] at h; injection h
   | old =>
    simp only [bZ,hd] at h
    cases hc:bZ f r with
    | ok p =>
     obtain ⟨p1,p2⟩:=p
     rw [hc] at h
     injection h with h; injection h with h1 h2
     exact .inr ⟨y,_,p1,p2,rfl,rfl,h1.symm,.inr ⟨rfl,h2.symm⟩⟩
    | ex z=>rw [hc] at h; injection h
    | bad=>rw [hc] at h; injection h
   | sto is =>
    cases is with
    | cons _ _=>simp only [bZ,hd] at h; injection h
    | nil =>
     simp only [bZ,hd] at h
     cases hc:bZ f r with
     | ok p =>
      obtain ⟨p1,p2⟩:=p
      rw [hc] at h
      injection h with h; injection h with h1 h2
      exact .inr ⟨y,_,p1,p2,rfl,rfl,h1.symm,.inl ⟨rfl,h2.symm⟩⟩
     | ex z=>rw [hc] at h; injection h
     | bad=>rw [hc] at h; injection h
 | ex z=>simp only [bZ,hd] at h; injection h
 | bad=>simp only [bZ,hd] at h; injection h
theorem turnC_ok {c:Env→R Bool} {el:Env→R (D × Kd)} {d:D} {o:Option (D × Kd)} (h:dq ρ tg one c el d=.ok o) :
  ∃ ρ1,cn (inComp ρ tg) tg one d .old=some ρ1∧((c ρ1=.ok false∧o=none)∨(c ρ1=.ok true∧∃ y,el ρ1=.ok y∧o=some y)):=by
 unfold dq at h
 cases hb:cn (inComp ρ tg) tg one d .old with
 | none=>rw [hb] at h; injection h
 | some ρ1 =>
  rw [hb] at h
  refine ⟨ρ1,rfl, ?_⟩
  cases hc:c ρ1 with
  | ok t =>
   cases t with
   | false=>simp only [hc] at h; injection h with h; exact .inl ⟨rfl,h.symm⟩
   | true =>
    simp only [hc] at h
    cases he:el ρ1 with
    | ok y=>rw [he] at h; injection h with h; exact .inr ⟨rfl,y,rfl,h.symm⟩
    | ex z=>rw [he] at h; injection h
    | bad=>rw [he] at h; injection h
  | ex z=>simp only [hc] at h; injection h
  | bad=>simp only [hc] at h; injection h
inductive CW (cl:Nat→Addr) (H1:Hp) (ρ:Env) (σ:L2.St) (tg:List Nat) (f:D→R (Option (D × Kd))) (xs all:List D) (b:Bool) (a:Addr) (i m:Nat) (ys:List V) (σ2:L2.St) (H2:Hp):Prop
 | mk (em:m=xs.length - i) (hi:i≤xs.length) (s2:Same H1 H2) (h2:H2 a=some (.lst ys)) (hyl:ys.length≤i) (hlen:σ2.length=σ.length) (fr:∀ j,j∉tg→σ2[j]?=(dB tg σ)[j]?)
  (done:List D) (fpd:List Addr) (b0:Bool) (rs:List D) (b1:Bool) (rd:RepL cl H2 done ys fpd) (naf:a∉fpd) (hb0:b0=true→fpd.Nodup∧∀ x∈fpd,H1 x=none∧NF H2 x) (hrs:bZ f (xs.drop i)=.ok (rs,b1)) (eall:all=done++rs) (eb:b=(b0 && b1))
theorem gX {cnd:Env→R Bool} {el:Env→R (D × Kd)} {tc:TT} {te:TE} {all:List D} {b:Bool} {Q:VK} (S1:SOK cl H0 ρ F σ H1) (s1:Same H H1) (hB:dn cl tg one g)
  (hgo:∀ i H',Same H1 H'→i < xs.length→J.go i H')
  (hyd:∀ i H' x H'',Same H1 H'→J.yld i H' x H''→i < xs.length→Same H' H''∧∃ d fd,xs[i]?=some d∧Rep cl H'' d x fd∧∀ b∈fd,H1 b≠none)
  (hst:∀ i H',Same H1 H'→xs.length≤i→J.stop i H') (hl:xs.length≤1000000)
  (hT:∀ ρ t σ H Q,cnd ρ=.ok t→tTd cl ρ t σ H Q→tc σ H Q) (hE:∀ ρ d k σ H Q,el ρ=.ok (d,k)→tD cl ρ d k σ H Q→te σ H Q)
  (hr:bZ (dq ρ tg one cnd el) xs=.ok (all,b))
  (q:∀ v H' fp,Same H H'→Rep cl H' (.lst all) v fp→KOk ρ F H H0 H' fp (if b=true then .sto [] else .bor)→Q v H') :
  ∀ a,H1 a=none→∃ W:Nat→Nat→List V→L2.St→Hp→Prop,(∃ m,W 0 m [] (dB tg σ) (upd H1 a (.lst [])))∧∀ i m ys σ2 H2,W i m ys σ2 H2 →
   H2 a=some (.lst ys)∧((J.stop i H2∧Q (.ref a) H2)∨(J.go i H2∧∀ x H3,J.yld i H2 x H3→g x σ2 H3 fun σ4 H4=>tc σ4 H4 fun b H5 =>
    if b=true then te σ4 H5 fun y H6=>H6 a=some (.lst ys)∧ys.length < y4∧∃ m',m' < m∧W (i+1) m' (ys++[y]) σ4 (upd H6 a (.lst (ys++[y])))
    else ∃ m',m' < m∧W (i+1) m' ys σ4 H5)):=by
 intro a ha
 have S0:=S1.inComp (tg:=tg)
 refine ⟨CW cl H1 ρ σ tg (dq ρ tg one cnd el) xs all b a,
  ⟨xs.length,rfl,xc _,Same.new ha,ai,zf _,eC _ _,fun _ _=>rfl,[],[],true,all,b,by unfold RepL; exact ⟨rfl,rfl⟩,xg,fun _=>⟨vm,fun _ h=>nomatch h⟩,hr,rfl,rfl⟩,fun i m ys σ2 H2 h=>zw fun P_ k_=>?_⟩
 obtain ⟨em,hi,s2,h2,hyl,hlen,fr,done,fpd,b0,rs,b1,rd,naf,hb0,hrs,eall,eb⟩:=h
 subst em
 refine k_ ⟨h2, ?_⟩
 clear k_ P_
 by_cases hlt:i < xs.length
 ·refine .inr ⟨hgo i H2 s2 hlt,fun x H3 y=>zw fun P_ k_=>?_⟩
  obtain ⟨eH,d,fd,ed,rx,hd⟩:=hyd i H2 x H3 s2 y hlt
  replace hb0:b0=true→fpd.Nodup∧∀ x∈fpd,H1 x=none∧NF H3 x:=fun hb=>⟨(hb0 hb).1,fun x hx=>⟨((hb0 hb).2 x hx).1,((hb0 hb).2 x hx).2.same eH (rd.dom x hx)⟩⟩
  replace rd:=rd.same eH
  replace h2:=eH a _ h2
  replace s2:=s2.trans eH
  have edrop:xs.drop i=d::xs.drop (i+1):=by
   rw [vq hlt]
   rw [z9 hlt] at ed
   rw [yy ed]
  rw [edrop] at hrs
  have S2:SOK cl H1 (inComp ρ tg) F σ2 H3:=SOK.frame (S0.step s2) (by rw [hlen,eC]) fun i x e=>fr i (ip e)
  rcases compL_cons hrs with ⟨ht,hrs⟩ | ⟨yd,ky,rs',b',ht,hrs,ers,kinds⟩
  ·obtain ⟨ρ1,hb,⟨hcn,_⟩ | ⟨_,_,_,e⟩⟩:=turnC_ok ht
   ·exact k_ <| hB H1 _ ρ1 F σ2 H3 x d fd S2 rx hd hb _ fun σ4 F4 S4 len4 fr4=>hT ρ1 false σ4 H3 _ hcn ⟨H1,F4,S4,fun H5 s5=>iteF ⟨xs.length - (i+1),Nat.sub_succ_lt_self _ _ hlt,rfl,hlt,s2.trans s5,s5 a _ h2,we hyl,len4.trans hlen,fun j hj=>(fr4 j hj).trans (fr j hj),done,fpd,b0,rs,b1,rd.same s5,naf,fun hb=>⟨(hb0 hb).1,fun x hx=>⟨((hb0 hb).2 x hx).1,((hb0 hb).2 x hx).2.same s5 (rd.dom x hx)⟩⟩,hrs,eall,eb⟩⟩
   ·injection e
  ·obtain ⟨ρ1,hb,⟨_,e⟩ | ⟨hcn,_,hel,e⟩⟩:=turnC_ok ht
   ·injection e
   injection e with e
   subst e
   refine k_ <| hB H1 _ ρ1 F σ2 H3 x d fd S2 rx hd hb _ fun σ4 F4 S4 len4 fr4=>hT ρ1 true σ4 H3 _ hcn ⟨H1,F4,S4,fun H5 s5=>iteT (hE ρ1 yd ky σ4 H5 _ hel ⟨H1,F4,S4.step s5,fun v H6 fp s6 r6 k6=>?_⟩)⟩
   have ha6:H6 a=some (.lst ys):=s6 a _ (s5 a _ h2)
   have nafp:a∉fp:=fun z=>by
    rcases kinds with ⟨e,_⟩ | ⟨e,_⟩
    ·subst e
     rcases k6.2.2.1 a z with w | ⟨_,w,_⟩
     ·rw [s5 a _ h2] at w; injection w
     ·cases w
    ·subst e
     exact k6 a z ha
   have ne:∀ c∈fpd++fp,c≠a:=fun c hc e=>by
    rw [e] at hc
    exact (y2.mp hc).elim naf nafp
   have s26:Same H3 H6:=s5.trans s6
   have nn:a∉fpd++fp:=fun z=>(y2.mp z).elim naf nafp
   have fin:∃ c0 c1,(c0=true→(fpd++fp).Nodup∧∀ x∈fpd++fp,H1 x=none∧NF (upd H6 a (.lst (ys++[v]))) x)∧bZ (dq ρ tg one cnd el) (xs.drop (i+1))=.ok (rs',c1)∧b=(c0 && c1):=by
    rcases kinds with ⟨e,e1⟩ | ⟨e,e1⟩
    ·subst e
     refine ⟨b0,b',fun hb=>?_,hrs,e1 ▸ eb⟩
     have m3:=k6.2.2.1
     have fresh:∀ x∈fp,H5 x=none:=fun x hx=>(m3 x hx).elim id fun w=>by obtain ⟨_,w,_⟩:=w; cases w
     refine ⟨x4.mpr ⟨(hb0 hb).1,k6.1,fun x hx y hy e=>(rd.same s5).dom x hx (fresh x (e ▸ hy))⟩,fun x hx=>?_⟩
     rcases y2.mp hx with z | z
     ·exact ⟨((hb0 hb).2 x z).1,fun o u w=>(((hb0 hb).2 x z).2.same s26 (rd.dom x z)) o u ((ah (ne x hx)).symm.trans w)⟩
     ·exact ⟨(s2.trans s5).free (fresh x z),fun o u w=>k6.2.2.2 x z o u ((ah (ne x hx)).symm.trans w)⟩
    ·exact ⟨false,b',fun hb=>px hb,hrs,by rw [eb,e1,nv]; rfl⟩
   obtain ⟨c0,c1,f1,f2,f3⟩:=fin
   exact ⟨ha6,zg hyl (zm hlt (fi hl)),xs.length - (i+1),Nat.sub_succ_lt_self _ _ hlt,rfl,hlt,fun c o e=>by
    rw [ah (bg e ha)]; exact s26 c o (s2 c o e),ai,by rw [zl]; exact xo hyl,len4.trans hlen,fun j hj=>(fr4 j hj).trans (fr j hj),done++[yd],fpd++fp,c0,rs',c1,
    ((rd.same s26).snoc r6).keep ⟨fun c hc=>ah (ne c hc),fun c vs e=>(ah fun z=>by rw [z,ha6] at e; (injection e with e; injection e)).trans e⟩,nn,f1,f2,by rw [eall,ers,wy]; rfl,f3⟩
 ·have ei:i=xs.length:=by (clear S1 s1 hB hgo hyd hst hl hT hE hr q ha S0 s2 h2 hyl hlen fr rd naf hb0 hrs eall eb; omega)
  subst ei
  rw [List.drop_length] at hrs
  simp only [bZ,R.ok.injEq,u3] at hrs
  obtain ⟨ers,eb1⟩:=hrs
  subst ers; subst eb1
  rw [xf] at eall
  subst eall
  refine .inl ⟨hst _ H2 s2 (zf _),q (.ref a) H2 (a::fpd) (s1.trans s2) ?_ ?_⟩
  ·unfold Rep
   exact ⟨a,ys,fpd,rfl,rfl,rd,.inl h2⟩
  ·have eb':b=b0:=by rw [eb]; simp
   rw [eb']
   cases b0 with
   | false=>rw [if_neg y9]; exact xm
   | true =>
    rw [if_pos rfl]
    obtain ⟨n1,n2⟩:=hb0 rfl
    refine ⟨y0.mpr ⟨naf,n1⟩,fun _ h=>(nomatch h),fun x hx=>.inl ?_,fun x hx=>?_⟩
    ·rcases y6.mp hx with z | z
     ·rw [z]; exact s1.free ha
     ·exact s1.free (n2 x z).1
    ·rcases y6.mp hx with z | z
     ·rw [z]; intro o u w; rw [h2] at w; (injection w with w; injection w)
     ·exact (n2 x z).2
end
end Vi
namespace Vi
open PySem PySem.Spec PyProof.Rows L2
structure JOk (cl:Nat→Addr) (J:It) (xs:List D) (B:Hp):Prop where
 go:∀ i H',Same B H'→i < xs.length→J.go i H'
 yld:∀ i H' x H'',Same B H'→J.yld i H' x H''→i < xs.length→Same H' H''∧∃ d fd,xs[i]?=some d∧Rep cl H'' d x fd∧∀ b∈fd,B b≠none
 stop:∀ i H',Same B H'→xs.length≤i→J.stop i H'
inductive tI (cl:Nat→Addr) (ρ:Env) (xs:List D) (k:Kd) (σ:L2.St) (H:Hp) (R:It→Hp→Prop):Prop
 | mk (H0:Hp) (F:Nat→List Addr) (S:SOK cl H0 ρ F σ H) (q:∀ J H1 fp,Same H H1→KOk ρ F H H0 H1 fp k →
  (∀ B:Hp,(∀ b∈fp,B b=H1 b)→(∀ a vs,H1 a=some (.tup vs)→B a=some (.tup vs))→JOk cl J xs B)→R J H1)
theorem pi_imp {X:Cx} {tg iter:Expr} {t t':TI} (h:PI X tg iter t) (i:∀ σ H R,t' σ H R→t σ H R):PI X tg iter t':=fun pins s σ H R I q=>h pins s σ H R I (i σ H R q)
section
variable {X:Cx} {cl:Nat→Addr} {ρ:Env} {k:Kd} {tg wb:List Nat} {one:Bool} {g:TG} {f:Env→Out} {xs:List D} {tgE iter:Expr}
theorem i_list (hi:PE X iter (tD cl ρ (.lst xs) k)):PI X tgE iter (tI cl ρ xs k) :=
 pi_imp (pi_list hi) fun σ H R ⟨H0,F,S,q⟩=>⟨H0,F,S,fun x H1 fp s1 r1 q1=>by
  refine zz fun P_ k_=>?_
  obtain ⟨a,vs,f',e,ef,r,hpp⟩:=r1
  refine k_ ?_
  have rd0:SqL X.K H1 a vs:=by
   rcases hpp with h | ⟨o,h⟩
   ·exact .inl (.inl h)
   ·exact .inl (.inr ⟨o,h⟩)
  refine ⟨a,e,⟨vs,rd0⟩,q _ H1 fp s1 q1 fun B hB tB=>?_⟩
  have rd:∀ {H':Hp},Same B H'→SqL X.K H' a vs:=fun {H'} s=>by
   have e1:B a=H1 a:=hB a (by rw [ef]; exact za)
   rcases hpp with h | ⟨o,h⟩
   ·exact .inl (.inl (s a _ (e1.trans h)))
   ·exact .inl (.inr ⟨o,s a _ (e1.trans h)⟩)
  refine ⟨fun i H' s hlt=>?_,fun i H' x H'' s y hlt=>?_,fun i H' s hle=>⟨vs,rd s,by rw [r.len]; exact hle⟩⟩
  ·have hv:i < vs.length:=by rw [r.len]; exact hlt
   exact ⟨vs,vs[i],rd s,by rw [z9 hv]⟩
  ·obtain ⟨eH,y⟩:=y
   subst eH
   refine zz fun P_ k_=>?_
   obtain ⟨v,fv,e1,e2,e3⟩:=r.get (z9 hlt)
   refine k_ ?_
   have e4:=y vs (rd s)
   rw [e4] at e1
   (injection e1 with e1; subst e1)
   have offv:∀ b∈fv,B b=H1 b:=fun b hb=>hB b (by rw [ef]; exact z8 _ (e3 b hb))
   refine ⟨Same.refl _,xs[i],fv,z9 hlt,e2.keep ⟨fun b hb=>?_,fun b vs h=>s b _ (tB b vs h)⟩,fun b hb=>by rw [offv b hb]; exact e2.dom b hb⟩
   cases qb:H1 b with
   | none=>exact absurd qb (e2.dom b hb)
   | some o=>exact s b o ((offv b hb).trans qb)⟩
theorem i_tup (hi:PE X iter (tD cl ρ (.tup xs) k)):PI X tgE iter (tI cl ρ xs k) :=
 pi_imp (pi_tup hi) fun σ H R ⟨H0,F,S,q⟩=>⟨H0,F,S,fun x H1 fp s1 r1 q1=>by
  obtain ⟨a,vs,e,hpp,r⟩:=r1
  refine ⟨a,e,⟨vs,.inl (.inl hpp)⟩,q _ H1 fp s1 q1 fun B hB tB=>?_⟩
  have rd:∀ {H':Hp},Same B H'→SqT X.K H' a vs:=fun {H'} s=>.inl (.inl (s a _ (tB a vs hpp)))
  refine ⟨fun i H' s hlt=>?_,fun i H' x H'' s y hlt=>?_,fun i H' s hle=>⟨vs,rd s,by rw [r.len]; exact hle⟩⟩
  ·have hv:i < vs.length:=by rw [r.len]; exact hlt
   exact ⟨vs,vs[i],rd s,by rw [z9 hv]⟩
  ·obtain ⟨eH,y⟩:=y
   subst eH
   obtain ⟨v,fv,e1,e2,e3⟩:=r.get (z9 hlt)
   have e4:=y vs (rd s)
   rw [e4] at e1
   (injection e1 with e1; subst e1)
   have offv:∀ b∈fv,B b=H1 b:=fun b hb=>hB b (e3 b hb)
   refine ⟨Same.refl _,xs[i],fv,z9 hlt,e2.keep ⟨fun b hb=>?_,fun b vs h=>s b _ (tB b vs h)⟩,fun b hb=>by rw [offv b hb]; exact e2.dom b hb⟩
   cases qb:H1 b with
   | none=>exact absurd qb (e2.dom b hb)
   | some o=>exact s b o ((offv b hb).trans qb)⟩
theorem dY:∀ (n:Nat) (a s:Int),(bh a s n).length=n:=by
 intro x_0
 induction x_0 with
 | zero =>
  intro _ _
  exact rfl
 | succ n ih_ =>
  intro a s
  show (bh (a+s) s n).length+1=n+1; rw [ih_]
theorem fK:∀ {n:Nat} {a s:Int} {i:Nat},i < n→(bh a s n)[i]?=some (.int (a+i * s))
 | n+1,a,s,0,_=>by show some (D.int a)=_; simp
 | n+1,a,s,i+1,h=>by
  show (bh (a+s) s n)[i]?=_
  rw [fK (by exact wf ‹_›)]
  congr 2
  have:((i+1:Nat):Int)=(i:Int)+1:=by rfl
  rw [this,Int.add_mul]
  (clear h this; omega)
theorem j_range {cl:Nat→Addr} {a:Int} {n:Nat} {B:Hp}:JOk cl (Itr a n) (bh a 1 n) B:=by
 refine ⟨fun i H' _ h=>by rw [dY] at h; exact h,fun i H' x H'' _ y h=>?_,fun i H' _ h=>by rw [dY] at h; exact h⟩
 obtain ⟨e1,e2⟩:=y
 rw [dY] at h
 subst e1
 refine ⟨Same.refl _,.int (a+i * 1),[],fK h,⟨by rw [e2]; simp,rfl⟩,fun b hb=>nomatch hb⟩
theorem i_range1 {a : Expr} {n : Int} {p pos : Pos} (hg : Gl X "range") (hm : X.mg "range" = none) (ha : PA X [a] (tDs cl ρ [.int n] k)) (h1 : -(2 ^ 62) ≤ n ∧ n < 2 ^ 62) (hs : zh [a] X.env = [(false, eval a X.env)]) :
  PI X tgE (.Call (.Name "range" p) [a] [] pos) (tI cl ρ (bh 0 1 n.toNat) (.sto [])) :=
 pi_imp (pi_range1 hg hm ha hs) fun σ H R ⟨H0,F,S,q⟩=>⟨H0,F,S,fun vs H1 fp s1 r1 q1=>by
  obtain ⟨v,vr,f1,f2,e,ef,r1,r2⟩:=r1
  refine ⟨n,by rw [e,r1.1,r2.1],h1.1,h1.2,q _ H1 [] s1 KOk.nil0 fun B _ _=>j_range⟩⟩
noncomputable def teU (cl:Nat→Addr) (el:Env→R (D × Kd)):TE:=fun σ H Q=>∃ ρ d k,el ρ=.ok (d,k)∧tD cl ρ d k σ H Q
noncomputable def tcU (cl:Nat→Addr) (cnd:Env→R Bool):TT:=fun σ H Q=>∃ ρ t,cnd ρ=.ok t∧tTd cl ρ t σ H Q
theorem s_for {body:List Stmt} {pos:Pos} (hp:xt (model X.prog X.w) X.A X.env X.xe) (hc:X.calm=true) (hi:PI X tgE iter (tI cl ρ xs k)) (hn:noBor k=true) (hg:PG X tgE g) (hB:dn cl tg one g)
  (hb:∀ ρ,PSs X body (tSd cl ρ wb (f ρ))) (hs:∀ x,w5 iter X.env x=pure x) :
  PS X (.For tgE iter body [] pos) (tSd cl ρ (tg++wb) (fS ρ (ao ρ k) (tg++wb) (forL (bC tg one f) xs (ao ρ k)))):=by
 have hb':PSs X body (fun D σ H=>∃ ρ,tSd cl ρ wb (f ρ) D σ H):=fun pins s σ H Q I ⟨ρ,h⟩=>hb ρ pins s σ H Q I h
 refine cz (ps_for hp hc hi hg hb' hs) fun D σ H hh_=>?_
 obtain ⟨H0,F,S,q⟩:=hh_
 refine ⟨H0,F,S,fun J H1 fp s1 q1 j=>?_⟩
 have S1:=S.step s1
 have L:=fu ρ k
 have jj:=j (reb H1 (ao ρ k) F) (walk_off S q1 hn s1) fun a vs h=>reb_tup S1 L h
 exact jB S1 hB jj.go jj.yld jj.stop q
theorem e_comp {elt:Expr} {ifs:List Expr} {sc:Scope} {pos:Pos} {cnd:Env→R Bool} {el:Env→R (D × Kd)} {all:List D} {b:Bool} (hc:X.calm=true) (Sc:d5 X sc)
  (how:∀ (i:Nat) (x:Str),X.N[i]?=some x→sc.names.lookup x=some ya.local→i∈tg) (hi:PI X tgE iter (tI cl ρ xs k)) (hg:∀ X',InC X sc X'→PG X' tgE g) (hB:dn cl tg one g) (hl:xs.length≤1000000)
  (ht:(ifs=[]∧∀ ρ t,cnd ρ=.ok t→t=true)∨∃ c,ifs=[c]∧∀ X',InC X sc X'→∀ ρ t,cnd ρ=.ok t→PT X' c (tTd cl ρ t)) (he:∀ X',InC X sc X'→∀ ρ d k,el ρ=.ok (d,k)→PE X' elt (tD cl ρ d k))
  (hr:bZ (dq ρ tg one cnd el) xs=.ok (all,b)) (hs:∀ x,w5 iter X.env x=pure x) :
  PE X (.ListComp elt [⟨tgE,iter,ifs,0⟩] sc pos) (tD cl ρ (.lst all) (if b=true then .sto [] else .bor)):=by
 have he':∀ X',InC X sc X'→PE X' elt (teU cl el):=fun X' hX pins s σ H Q I ⟨ρ,d,k,e,h⟩=>he X' hX ρ d k e pins s σ H Q I h
 have fin:∀ (tc:TT),(∀ ρ t σ H Q,cnd ρ=.ok t→tTd cl ρ t σ H Q→tc σ H Q)→∀ σ H Q,tD cl ρ (.lst all) (if b=true then .sto [] else .bor) σ H Q →
   tComp (tI cl ρ xs k) g tc (teU cl el) tg σ H Q:=fun tc hT σ H Q ⟨H0,F,S,q⟩=>⟨H0,F,S,fun J H1 fp s1 q1 j=>by
  have jj:=j H1 (fun _ _=>rfl) fun _ _ h=>h
  exact gX (te:=teU cl el) (S.step s1) s1 hB jj.go jj.yld jj.stop hl hT (fun ρ d k σ H Q e h=>⟨ρ,d,k,e,h⟩) hr q⟩
 rcases ht with ⟨e,ht⟩ | ⟨c,e,ht⟩
 ·refine aT (pe_comp tg hc Sc how hi hg (.inl ⟨e,rfl⟩) he' hs) (fin tAll fun ρ t σ H Q e hh_=>?_)
  obtain ⟨_,_,_,q⟩:=hh_
  exact by have:=q H (Same.refl H); rw [ht ρ t e] at this; exact this
 ·exact aT (pe_comp (tc:=tcU cl cnd) tg hc Sc how hi hg (.inr ⟨c,e,fun X' hX pins s σ H Q I ⟨ρ,t,e,h⟩=>ht X' hX ρ t e pins s σ H Q I h⟩) he' hs) (fin (tcU cl cnd) fun ρ t σ H Q e h=>⟨ρ,t,e,h⟩)
end
end Vi
namespace Vi
open PySem PySem.Spec PyProof.Rows L2
section
variable {cl:Nat→Addr} {H0 H H':Hp} {ρ:Env} {F:Nat→List Addr} {σ:L2.St}
end
section
variable {X:Cx} {cl:Nat→Addr} {ρ:Env} {o e:Expr} {st:Stmt} {pos apos cpos:Pos} {d:D} {k:Kd} {i:Nat} {l ds:List D} {js is:List Nat}
theorem s_app (h : PS X st (tDrop (tBM X.K "list" rAppend (tVar i) (tCons (tD cl ρ d (.sto js)) tNil)))) (hl : ρ[i]? = some (some (.lst l, true))) (hc : l.length < 1000000 ∧ i ∉ js) :
  PS X st (tSd cl ρ [] (.nx ((js.foldl (fun t j=>t.set j none) ρ).set i (some (.lst (l++[d]),true))))) :=
 cz h fun D σ H ⟨H0,F,S,q⟩=>by
  obtain ⟨a,vs,f,hv,ha,eF,r⟩:=S.lst hl
  refine ⟨.ref a,hv,.inl ⟨rfl,vs,.inl (.inl ha)⟩,H0,F,S,fun y H1 g s1 r1 hh_=>?_⟩
  obtain ⟨n1,o1,m1,z1⟩:=hh_
  have ha1:=s1 a _ ha
  have nodF:(a::f).Nodup:=eF ▸ (S.own i _ hl).1
  have naf:=(y0.mp nodF).1
  have offg:∀ b∈F i,b∉g:=fun b hb hg=>by
   rcases m1 b hg with z | ⟨w,hw,z⟩
   ·exact S.dom hl b hb z
   ·obtain ⟨dl,el⟩:=o1 w hw
    exact S.dis i w _ dl true (fun q=>hc.2 (q ▸ hw)) hl el b hb z
  have nag:a∉g:=offg a (by rw [eF]; exact za)
  have ne:∀ b∈f++g,b≠a:=fun b hb z=>by rw [z] at hb; exact (y2.mp hb).elim naf nag
  have kp:Keep (f++g) H1 (upd H1 a (.lst (vs++[y]))):=⟨fun b hb=>ah (ne b hb),fun b ws z=>by
   rw [ah (fun w=>by rw [w,ha1] at z; (injection z with z; injection z))]; exact z⟩
  have rl:RepL cl (upd H1 a (.lst (vs++[y]))) (l++[d]) (vs++[y]) (f++g):=((r.same s1).snoc r1).keep kp
  obtain ⟨F',S'⟩:=S.mut (H':=upd H1 a (.lst (vs++[y]))) (d':=.lst (l++[d])) (fp:=a::(f++g)) (is:=js) hl hv hc.2 o1 (by unfold Rep; exact ⟨a,_,_,rfl,rfl,rl,.inl ai⟩)
   (y0.mpr ⟨fun z=>ne a z rfl,x4.mpr ⟨(y0.mp nodF).2,n1,fun x hx y hy e=>by subst e; exact offg x (by rw [eF]; exact z8 _ hx) hy⟩⟩)
   (fun b hb=>by
    rcases y6.mp hb with z | z
    ·rw [z,eF]; exact .inl za
    ·rcases y2.mp z with z | z
     ·rw [eF]; exact .inl (z8 _ z)
     ·exact .inr (m1 b z))
   (fun b hb o u z=>by
    rcases y6.mp hb with w | w
    ·rw [w,ai] at z; (injection z with z; injection z)
    ·rw [ah (ne b w)] at z
     rcases y2.mp w with w | w
     ·exact (((S.own i _ hl).2 b (by rw [eF]; exact z8 _ w)).2.same s1 (S.dom hl b (by rw [eF]; exact z8 _ w))) o u z
     ·exact z1 b w o u z)
   (fun b hb hd=>by
    rw [ah (fun z=>hb (by rw [z,eF]; exact za))]
    cases qb:H b with
    | none=>exact absurd qb hd
    | some o=>exact s1 b o qb)
   (fun b ws z=>by
    have z1:=s1 b _ z
    rw [ah (fun w=>by rw [w,ha1] at z1; (injection z1 with z1; injection z1))]; exact z1)
  exact ⟨a,vs,y,rfl,rfl,ha1,by rw [r.len]; have:=fi (n:=l.length+1) (by (clear h hl S q hv ha eF r s1 r1 n1 o1 m1 z1 ha1 nodF naf offg nag ne kp rl S'; omega)); assumption,q σ _ F' S' fun _ _=>rfl⟩
theorem mut_list {H0 H:Hp} {F:Nat→List Addr} {σ:L2.St} {l':List D} (S:SOK cl H0 ρ F σ H) (hl:ρ[i]?=some (some (.lst l,true))) {a:Addr} {vs ws:List V} {f f':List Addr} (hv:σ[i]?=some (some (.ref a))) (ha:H a=some (.lst vs)) (eF:F i=a::f)
  (hf:∀ b∈f',b∈f) (nf:f'.Nodup) (r:RepL cl H l' ws f'):∃ F',SOK cl H0 (ρ.set i (some (.lst l',true))) F' σ (upd H a (.lst ws)):=by
 have nodF:(a::f).Nodup:=eF ▸ (S.own i _ hl).1
 have naf:=(y0.mp nodF).1
 have naf':a∉f':=fun z=>naf (hf a z)
 have kp:Keep f' H (upd H a (.lst ws)):=⟨fun b hb=>ah (fun z=>naf' (z ▸ hb)),fun b us z=>by
  rw [ah (fun w=>by rw [w,ha] at z; (injection z with z; injection z))]; exact z⟩
 exact S.mut (H':=upd H a (.lst ws)) (d':=.lst l') (fp:=a::f') (is:=[]) hl hv (by simp) (fun _ h=>nomatch h) (by unfold Rep; exact ⟨a,_,_,rfl,rfl,r.keep kp,.inl ai⟩)
  (y0.mpr ⟨naf',nf⟩)
  (fun b hb=>.inl (by
   rcases y6.mp hb with z | z
   ·rw [z,eF]; exact za
   ·rw [eF]; exact z8 _ (hf b z)))
  (fun b hb o u z=>by
   rcases y6.mp hb with w | w
   ·rw [w,ai] at z; (injection z with z; injection z)
   ·rw [ah (fun (y:b=a)=>naf' (by rw [← y]; exact w))] at z
    exact ((S.own i _ hl).2 b (by rw [eF]; exact z8 _ (hf b w))).2 o u z)
  (fun b hb hd=>ah (fun z=>hb (by rw [z,eF]; exact za)))
  (fun b us z=>by rw [ah (fun w=>by rw [w,ha] at z; (injection z with z; injection z))]; exact z)
theorem RepL.reverse {H:Hp}:∀ {l:List D} {vs:List V} {f:List Addr},RepL cl H l vs f→immL l=true→RepL cl H l.reverse vs.reverse []:=by
 intro x_0
 induction x_0 with
 | nil =>
  intro _ _ h _
  obtain ⟨e,_⟩:=h
  subst e
  exact ⟨rfl,rfl⟩
 | cons x r ih_ =>
  intro vs f h hi
  obtain ⟨v,vr,f1,f2,e,ef,r1,r2⟩:=h
  subst e
  have hi':x.imm=true∧immL r=true:=by simpa [immL] using hi
  have e1:=r1.imm hi'.1
  subst e1
  rw [pd,pd]
  exact (ih_ r2 hi'.2).snoc r1
end
section
variable {P:yp} {w:World} {K:ze} {mg:Str→Option Value} {base:Heap} {cl:Nat→Addr}
theorem start_sok {H:Hp} {ds:List D} {vs:List V} {fp:List Addr} {N:List Str} {n:Nat} (r:RepL cl H ds vs fp) (hn:N.length=n) (hl:ds.length≤n) :
  ∃ F,SOK cl H (ds.map (fun d=>some (d,false))++yt (n - ds.length) none) F (L2.dI N vs) H:=by
 have key:∀ i:Nat,∃ f:List Addr,∀ d,ds[i]?=some d→∃ v,vs[i]?=some v∧Rep cl H d v f:=fun i=>by
  cases e:ds[i]? with
  | none=>exact ⟨[],fun d h=>nomatch h⟩
  | some d =>
   obtain ⟨v,f,h1,h2,_⟩:=r.get e
   exact ⟨f,fun d' h=>by (injection h with h; subst h); exact ⟨v,h1,h2⟩⟩
 refine ⟨fun i=>Classical.choose (key i), ?_⟩
 have look:∀ {j:Nat} {d:D} {o:Bool},(ds.map (fun d=>some (d,false))++yt (n - ds.length) none)[j]?=some (some (d,o))→o=false∧ds[j]?=some d:=fun {j d o} h=>by
  by_cases hj:j < ds.length
  ·rw [w6 (by simpa using hj),yn] at h
   cases e:ds[j]? with
   | none=>rw [e] at h; injection h
   | some x=>rw [e] at h; cases h; exact ⟨rfl,rfl⟩
  ·rw [um (by simpa using hj),sd] at h
   split at h <;> (first | injection h; done | injection h with h; injection h; done)
 refine ⟨Same.refl _, ?_,fun j d o h=>?_,fun j d h=>?_,fun i j d e o _ h=>?_,fun j d h a ha=>?_⟩
 ·unfold L2.dI
  simp only [zl,z7,pi]
  rw [r.len,hn]
 ·obtain ⟨_,e⟩:=look h
  obtain ⟨v,h1,h2⟩:=uq (key j) d e
  refine ⟨v, ?_,h2⟩
  unfold L2.dI
  have hj:j < vs.length:=(yi.mp h1).1
  rw [w6 (by simpa using hj),yn,h1]
  rfl
 ·cases (look h).1
 ·cases (look h).1
 ·obtain ⟨_,e⟩:=look h
  obtain ⟨v,h1,h2⟩:=uq (key j) d e
  exact h2.dom a ha
set_option tactic.hygienic true in
theorem cS {x qual:Str} {st:Stmt} {f:Addr} {fd:x6} {N ps:List Str} {kk:Nat} {M:Tab} {fn:Fn} (Fu:Fun K x qual st f fd) (Sc:aO N ps (ab st)) (hps:ps.length=fn.par) (hN:N.length=fn.slots)
  (hb:∀ (cdv:Value) (A:Around) (outer:List PySem.Env) (s:Shared) (H:Hp) (E:XK),Room kk (A.deeper (envOfC qual (ab st) s.heap.objs.size f cdv)) →
   ∀ ρ,PSs (cxOf CX0 P w K mg base N qual (ab st) f cdv A outer s H E).nox (ag st) (tSd cl ρ (asgs fn.body) (al M fn.body ρ))) :
  FnOk P w K mg base CX0 (kk+1) f fd ps (spP cl (fn.run M)):=by
 refine Fu.ok Sc (fun vs H Q E h=>?_) fun cdv A outer s H vs Q E hr h=>?_
 ·refine zz fun P_ k_=>?_
  obtain ⟨ds,fp,r,rl,e,_⟩:=h
  refine k_ ?_
  unfold Fn.run at e
  split at e
  ·rename_i hc
   rw [rl.len,hc.1,hps]
  ·injection e
 ·refine zz fun P_ k_=>?_
  obtain ⟨ds,fp,r,rl,e,cont⟩:=h
  refine k_ ?_
  unfold Fn.run at e
  split at e
  ·rename_i hc
   obtain ⟨F,S⟩:=start_sok rl hN (by rw [hc.1]; exact hc.2)
   rw [hc.1] at S
   refine ⟨_,hb cdv A outer s H E hr (ds.map (fun d=>some (d,false))++yt (fn.slots - fn.par) none),H,F,S, ?_⟩
   split at e
   ·rename_i d hd
    injection e with e; subst e
    rw [hd]
    exact fun v H' fp' s' r' n' m'=>cont v H' fp' s' r' n' m'
   ·rename_i ρ' hd
    injection e with e; subst e
    rw [hd]
    exact fun σ' H' F' S' _=>cont .non H' [] S'.same ⟨rfl,rfl⟩ vm fun _ h=>nomatch h
   ·injection e
   ·injection e
  ·injection e
end
end Vi
namespace Vi
open PySem PySem.Spec PyProof.Rows L2 PySem.SeqAt
section
variable {cl:Nat→Addr} {H:Hp}
set_option tactic.hygienic true in
theorem same_ls {f:D→D→Option Bool} (hf:∀ {a b:D} {k:Bool} {v:V} {fa fb:List Addr},f a b=some k→Rep cl H a v fa→Rep cl H b v fb→k=true) :
  ∀ {a b:List D} {k:Bool} {vs:List V} {fa fb:List Addr},eqLs f a b=some k→RepL cl H a vs fa→RepL cl H b vs fb→k=true:=by
 intro x_0
 induction x_0 with
 | nil =>
  intro x_1
  cases x_1 with
  | nil =>
   intro k _ _ _ h _ _
   (injection h with h; subst h); rfl
  | cons y b =>
   intro k vs fa fb _ h1 h2
   have e1:=h1.len
   have e2:=h2.len
   rw [e1] at e2
   simp at e2
 | cons x a ih_ =>
  intro x_1
  cases x_1 with
  | nil =>
   intro k vs fa fb _ h1 h2
   have e1:=h1.len
   have e2:=h2.len
   rw [e1] at e2
   simp at e2
  | cons y b =>
   intro k vs fa fb h h1 h2
   obtain ⟨v,vr,f1,g1,e1,_,r1,l1⟩:=h1
   obtain ⟨v',vr',f2,g2,e2,_,r2,l2⟩:=h2
   rw [e1] at e2
   injection e2 with e2 e3
   subst e2; subst e3
   simp only [eqLs] at h
   split at h
   ·rename_i p q hp hq
    (injection h with h; subst h)
    rw [hf hp r1 r2,ih_ hq l1 l2]
    rfl
   ·injection h
theorem same_eq:∀ {n:Nat} {a b:D} {k:Bool} {v:V} {fa fb:List Addr},eqN n a b=some k→Rep cl H a v fa→Rep cl H b v fb→k=true:=by
 intro n
 induction n with
 | zero=>intro _ _ _ _ _ _ h; injection h
 | succ n ih =>
  intro a b k v fa fb h h1 h2
  cases a with
  | int i =>
   cases b with
   | int j =>
    (injection h with h; subst h)
    have:=h1.1.symm.trans h2.1
    injection this with this
    subst this
    simp
   | _=>injection h
  | tup l =>
   cases b with
   | tup m =>
    have h:eqLs (eqN n) l m=some k:=h
    obtain ⟨p,vs,e1,hp,r1⟩:=h1
    obtain ⟨q,ws,e2,hq,r2⟩:=h2
    rw [e1] at e2
    injection e2 with e2
    subst e2
    rw [hp] at hq
    (injection hq with hq; injection hq with hq; subst hq)
    exact same_ls (fun h=>ih h) h r1 r2
   | _=>injection h
  | lst l =>
   cases b with
   | lst m =>
    have h:eqLs (eqN n) l m=some k:=h
    obtain ⟨p,vs,f1,e1,_,r1,hp⟩:=h1
    obtain ⟨q,ws,f2,e2,_,r2,hq⟩:=h2
    rw [e1] at e2
    injection e2 with e2
    subst e2
    have ev:vs=ws:=by
     rcases hp with hp | ⟨o,hp⟩ <;> rcases hq with hq | ⟨o',hq⟩ <;> rw [hp] at hq <;> cases hq <;> rfl
    subst ev
    exact same_ls (fun h=>ih h) h r1 r2
   | _=>injection h
  | _=>injection h
end
section
variable {X:Cx} {cl:Nat→Addr} {H:Hp} {pins:List (Addr × Obj)} {σ:L2.St} {s:Shared}
set_option tactic.hygienic true in
theorem ls_range {f:D→D→Option Bool}:∀ {a b:List D} {k:Bool},eqLs f a b=some k →
  ∃ e:Nat→Bool,(∀ j (x y:D),a[j]?=some x→b[j]?=some y→f x y=some (e j))∧k=((vw (min a.length b.length)).all e && a.length == b.length):=by
 intro x_0
 induction x_0 with
 | nil =>
  intro x_1
  cases x_1 with
  | nil =>
   intro k h
   (injection h with h; subst h); exact ⟨fun _=>true,fun j x y h=>by simp at h,by simp⟩
  | cons y b =>
   intro k h
   (injection h with h; subst h); exact ⟨fun _=>true,fun j x y h=>by simp at h,by simp⟩
 | cons x a ih_ =>
  intro x_1
  cases x_1 with
  | nil =>
   intro k h
   (injection h with h; subst h); exact ⟨fun _=>true,fun j x y _ h=>by simp at h,by simp⟩
  | cons y b =>
   intro k h
   simp only [eqLs] at h
   split at h
   ·rename_i p q hp hq
    (injection h with h; subst h)
    obtain ⟨e,h1,h2⟩:=ih_ hq
    refine ⟨fun j=>match j with | 0=>p | j+1=>e j,fun j u v hu hv=>?_, ?_⟩
    ·cases j with
     | zero=>(injection hu with hu; subst hu); (injection hv with hv; subst hv); exact hp
     | succ j=>exact h1 j u v (by simpa using hu) (by simpa using hv)
    ·rw [h2]
     have em:min (x::a).length (y::b).length=min a.length b.length+1:=by simp [Nat.succ_min_succ]
     rw [em,List.range_succ_eq_map,mi,List.all_map]
     have el:((x::a).length == (y::b).length)=(a.length == b.length):=by simp
     rw [el,Bool.and_assoc]
     rfl
   ·injection h
theorem iP {K:ze} {l:List D} {vs:List V} {its:List Value} {f:List Addr} (r:RepL cl H l vs f) (rv:Vals vs its) {j:Nat} (h:j < its.toArray.size):∃ d v g,l[j]?=some d∧Rep cl H d v g∧RelV v its.toArray[j]:=by
 have hj:j < l.length:=by rw [← r.len,rv.length]; simpa using h
 obtain ⟨v,g,e1,e2,_⟩:=r.get (z9 hj)
 obtain ⟨u,hu,ru⟩:=rv.get e1
 refine ⟨l[j],v,g,z9 hj,e2, ?_⟩
 have hj':j < its.length:=by simpa using h
 rw [z9 hj'] at hu
 (injection hu with hu; subst hu)
 simpa using ru
theorem lst_val (I:Inv X pins σ H s) {l:List D} {x:V} {u:Value} {f:List Addr} (r:Rep cl H (.lst l) x f) (ru:RelV x u):∃ a vs its g,u=.ref a∧x=.ref a∧s.heap.IsList a its.toArray∧Vals vs its∧RepL cl H l vs g:=by
 obtain ⟨p,vs,g,e,h1,h2⟩:=bz (K:=X.K) r
 subst e
 subst ru
 obtain ⟨its,rv,pl,_⟩:=I.list h1
 exact ⟨p,vs,its,g,rfl,rfl,pl.isList,rv,h2⟩
theorem tup_val (I:Inv X pins σ H s) {l:List D} {x:V} {u:Value} {f:List Addr} (r:Rep cl H (.tup l) x f) (ru:RelV x u):∃ a vs its,u=.ref a∧x=.ref a∧s.heap.IsTuple a its.toArray∧Vals vs its∧RepL cl H l vs f:=by
 obtain ⟨p,vs,e,h1,h2⟩:=cJ (K:=X.K) r
 subst e
 subst ru
 obtain ⟨its,rv,pl,_⟩:=I.tuple h1
 exact ⟨p,vs,its,rfl,rfl,pl,rv,h2⟩
theorem eq_ok (I:Inv X pins σ H s):∀ {n:Nat} {a b:D} {k:Bool} {x y:V} {u v:Value} {fa fb:List Addr} {A:Around},eqN n a b=some k→Rep cl H a x fa→Rep cl H b y fb→RelV x u→RelV y v→A.units+n < cLine →
  RcAt A s u v k∧EqAt A s u v k∧RcNeAt A s u v (!k):=by
 intro x_0
 induction x_0 with
 | zero =>
  intro _ _ _ _ _ _ _ _ _ _ h _ _ _ _ _
  injection h
 | succ n ih_ =>
  intro a b k x y u v fa fb A h h1 h2 ru rv hA
  have hu:A.units < cLine:=by exact zg (yc _ _) ‹_›
  have hin:A.in1.units+n < cLine:=by show A.units+1+n < cLine; (clear I h h1 h2 ru rv hu; omega)
  have h0:=h
  cases a with
  | int i =>
   rw [h1.1] at ru
   obtain ⟨t,rfl⟩:=ru
   cases b with
   | int j =>
    (injection h with h; subst h)
    rw [h2.1] at rv
    obtain ⟨t',rfl⟩:=rv
    exact ⟨.int_int _ _ _ _,.int_int _ _ _ _,.int_int _ _ _ _⟩
   | _=>injection h
  | tup l =>
   cases b with
   | tup m =>
    have h:eqLs (eqN n) l m=some k:=h
    refine zz fun P_ k_=>?_
    obtain ⟨p,vs,its,eu,ex,il,vv,r1⟩:=tup_val I h1 ru
    obtain ⟨q,ws,its2,ev,ey,il2,vv2,r2⟩:=tup_val I h2 rv
    obtain ⟨e,he,ek⟩:=ls_range h
    refine k_ ?_
    have items:∀ j (z1:j < its.toArray.size) (z2:j < its2.toArray.size),EqAt A.in1 s its.toArray[j] its2.toArray[j] (e j):=fun j z1 z2=>by
     refine zz fun P_ k_=>?_
     obtain ⟨d1,w1,g1,a1,a2,a3⟩:=iP (K:=X.K) r1 vv z1
     obtain ⟨d2,w2,g2,b1,b2,b3⟩:=iP (K:=X.K) r2 vv2 z2
     refine k_ ?_
     exact (ih_ (he j d1 d2 a1 b1) a2 b2 a3 b3 hin).2.1
    have sz:its.toArray.size=l.length:=by rw [← r1.len,vv.length]; simp
    have sz2:its2.toArray.size=m.length:=by rw [← r2.len,vv2.length]; simp
    have rc:=RcAt.tuples il il2 hu items
    have rn:=RcNeAt.tuples il il2 hu items
    rw [sz,sz2,← ek] at rc rn
    subst eu; subst ev
    refine ⟨rc, ?_,rn⟩
    by_cases hpq:p=q
    ·subst hpq
     have:=same_eq h0 h1 (ex.trans ey.symm ▸ h2)
     subst this
     exact .same _
    ·exact .of_refs hpq rc
   | _=>injection h
  | lst l =>
   cases b with
   | lst m =>
    have h:eqLs (eqN n) l m=some k:=h
    refine zz fun P_ k_=>?_
    obtain ⟨p,vs,its,g1,eu,ex,il,vv,r1⟩:=lst_val I h1 ru
    obtain ⟨q,ws,its2,g2,ev,ey,il2,vv2,r2⟩:=lst_val I h2 rv
    obtain ⟨e,he,ek⟩:=ls_range h
    refine k_ ?_
    have sz:its.toArray.size=l.length:=by rw [← r1.len,vv.length]; simp
    have sz2:its2.toArray.size=m.length:=by rw [← r2.len,vv2.length]; simp
    subst eu; subst ev
    have both:RcAt A s (.ref p) (.ref q) k∧RcNeAt A s (.ref p) (.ref q) (!k):=by
     by_cases hl:l.length=m.length
     ·have items:∀ j (z1:j < its.toArray.size) (z2:j < its2.toArray.size),EqAt A.in1 s its.toArray[j] its2.toArray[j] (e j):=fun j z1 z2=>by
       refine zz fun P_ k_=>?_
       obtain ⟨d1,w1,g1,a1,a2,a3⟩:=iP (K:=X.K) r1 vv z1
       obtain ⟨d2,w2,g2,b1,b2,b3⟩:=iP (K:=X.K) r2 vv2 z2
       refine k_ ?_
       exact (ih_ (he j d1 d2 a1 b1) a2 b2 a3 b3 hin).2.1
      have hsz:its.toArray.size=its2.toArray.size:=by rw [sz,sz2,hl]
      have rc:=RcAt.lists il il2 hsz hu items
      have rn:=RcNeAt.lists il il2 hsz hu items
      have ek':k=(vw its.toArray.size).all e:=by rw [ek,hl,Nat.min_self,sz,hl]; simp
      rw [← ek'] at rc rn
      exact ⟨rc,rn⟩
     ·have hsz:(its.toArray.size != its2.toArray.size)=true:=by rw [sz,sz2]; simpa using hl
      have ek':k=false:=by
       rw [ek]
       have:(l.length == m.length)=false:=by simpa using hl
       rw [this,nv]
      subst ek'
      exact ⟨RcAt.lists_lengths il il2 hsz hu,RcNeAt.lists_lengths il il2 hsz hu⟩
    refine ⟨both.1, ?_,both.2⟩
    by_cases hpq:p=q
    ·subst hpq
     have:=same_eq h0 h1 (ex.trans ey.symm ▸ h2)
     subst this
     exact .same _
    ·exact .of_refs hpq both.1
   | _=>injection h
  | _=>injection h
noncomputable def rEqD (cl:Nat→Addr) (neg:Bool):R2:=fun x y H Q=>∃ a b k fa fb,Rep cl H a x fa∧Rep cl H b y fb∧eqD a b=some k∧Q (.bl (if neg then !k else k)) H
theorem op_eqD (hu:X.A.units+8 < cLine):OpR X (wg .Eq) (rEqD cl false):=by
 intro pins s σ H x y v u Q I rx ry hh_
 obtain ⟨a,b,k,fa,fb,h1,h2,e,q⟩:=hh_
 exact (eq_ok I e h1 h2 rx ry hu).1 X.prog X.w X.xe _ ⟨.bl k,H,I,rfl,q⟩
theorem op_neD (hu:X.A.units+8 < cLine):OpR X (wg .NotEq) (rEqD cl true):=by
 intro pins s σ H x y v u Q I rx ry hh_
 obtain ⟨a,b,k,fa,fb,h1,h2,e,q⟩:=hh_
 exact (eq_ok I e h1 h2 rx ry hu).2.2 X.prog X.w X.xe _ ⟨.bl (!k),H,I,rfl,q⟩
end
end Vi
namespace Vi
open PySem PySem.Spec PyProof.Rows L2
section
variable (X:Cx) (cl:Nat→Addr) (M:Tab)
noncomputable def GE (e:Expr) (E':E):Prop:=∀ ρ d k,runE M E' ρ=.ok (d,k)→PE X e (tD cl ρ d k)
noncomputable def GA (es:List Expr) (Es:List E):Prop:=∀ ρ ds k,cp M Es ρ=.ok (ds,k)→PA X es (tDs cl ρ ds k)
noncomputable def GT (e:Expr) (E':E):Prop:=∀ ρ d k t,runE M E' ρ=.ok (d,k)→truD d=.ok t→PT X e (tTd cl ρ t)
noncomputable def GI (tg iter:Expr) (ik:Itk) (it:List E):Prop:=∀ ρ xs k,runI M ik it ρ=.ok (xs,k)→PI X tg iter (tI cl ρ xs k)
noncomputable def GS (st:Stmt) (s:S):Prop:=∀ ρ,PS X st (tSd cl ρ (asg s) (runS M s ρ))
noncomputable def GSs (sts:List Stmt) (ss:List S):Prop:=∀ ρ,PSs X sts (tSd cl ρ (asgs ss) (al M ss ρ))
end
section
variable {X:Cx} {cl:Nat→Addr} {M:Tab} {a b c e o:Expr} {es rest:List Expr} {pos p p2:Pos} {a' b' c' e' o':E} {es':List E}
theorem g_var {i : Nat} {x : Str} (hN : X.N[i]? = some x) (hv : Vis X.env.scope x) (hd : (x == ("__debug__" : Str)) = false) (hcd : (x == ("__classdict__" : Str)) = false) : GE X cl M (.Name x pos) (.var i) := fun ρ d k h => e_var hN hv hd hcd h
theorem aq {i:Int} {j}:GE X cl M (.Constant (.int i) j pos) (.int i):=fun ρ d k h=>by
 cases h; exact e_int
theorem g_bl {i:Bool} {j}:GE X cl M (.Constant (.bool i) j pos) (.bl i):=fun ρ d k h=>by
 cases h; exact e_bl
theorem g_non {j}:GE X cl M (.Constant .none j pos) .non:=fun ρ d k h=>by
 cases h; exact e_non
theorem g_glb {x : Str} {i : Int} {t : Tok} (hg : Gl X x) (hm : X.mg x = some (.int i t)) (hd : (x == ("__debug__" : Str)) = false) : GE X cl M (.Name x pos) (.glb (.int i)) := fun ρ d k h => by
 cases h
 exact aT (pe_glob (v:=.int i) hg hm ⟨t,rfl⟩ hd) fun σ H Q hh_=>(by obtain ⟨_,_,_,q⟩:=hh_; exact (q _ H [] (Same.refl H) ⟨rfl,rfl⟩ KOk.nil0))
theorem aB {op:Op} (ha:GE X cl M a a') (hb:GE X cl M b b'):GE X cl M (.BinOp a (opOf op) b pos) (.bin op a' b'):=fun ρ d k h=>by
 rw [rE_bin] at h
 obtain ⟨⟨x,kx⟩,h1,h⟩:=R.bind_ok h
 obtain ⟨⟨y,ky⟩,h2,h⟩:=R.bind_ok h
 obtain ⟨z,h3,h⟩:=R.bind_ok h
 obtain ⟨rfl,rfl⟩:=okp h
 exact e_bin h3 (ha ρ x kx h1) (hb ρ y ky h2)
theorem g_one {op} (ha:GE X cl M a a'):GE X cl M (.BoolOp op [a] pos) a':=fun ρ d k h=>pe_one (ha ρ d k h)
theorem g_and (ha:GE X cl M a a') (hb:GE X cl M (.BoolOp .And (b::rest) pos) b'):GE X cl M (.BoolOp .And (a::b::rest) pos) (.and a' b'):=fun ρ d k h=>by
 rw [rE_and] at h
 obtain ⟨⟨x,kx⟩,h1,h⟩:=R.bind_ok h
 cases x with
 | bl i =>
  cases i with
  | true =>
   intro pins s σ H Q I hh_
   obtain ⟨H0,F,S,q⟩:=hh_
   exact pe_and (ha ρ _ kx h1) (hb ρ d k h) pins s σ H Q I ⟨H0,F,S,fun v H1 fp s1 r1 _=>⟨true,r1.1,iteT ⟨H0,F,S.step s1,fun v2 H2 fp2 s2 r2 k2=>q v2 H2 fp2 (s1.trans s2) r2 (KOk.of_sub s1 k2)⟩⟩⟩
  | false =>
   obtain ⟨rfl,rfl⟩:=okp h
   intro pins s σ H Q I hh_
   obtain ⟨H0,F,S,q⟩:=hh_
   refine BoolOp_and (thn (ha ρ _ kx h1 pins s σ H (fun v H1=>v=.bl false∧Q (.bl false) H1) I ⟨H0,F,S,fun v H1 fp s1 r1 _=>⟨r1.1,q _ H1 [] s1 ⟨rfl,rfl⟩ KOk.nil0⟩⟩) fun v s1 hh_=>?_)
   obtain ⟨x,H1,I1,r1,e,q1⟩:=hh_
   subst e
   subst r1
   exact uv ⟨.bl false,H1,I1,rfl,q1⟩
 | _=>injection h
noncomputable def GW (X:Cx) (cl:Nat→Addr) (M:Tab) (e:Expr) (E':E):Prop:=∀ ρ d k t,runE M E' ρ=.ok (d,k)→truD d=.ok t→PW X e (tTd cl ρ t)
theorem dy (h:GE X cl M a a') (he:∀ whole,isTrue a X.env whole=(do let v ← whole; standAt a.pos; holding [v] (truthy v))):GT X cl M a a':=fun ρ d k t h1 h2=>t_truth (h ρ d k h1) h2 he
theorem gt_not (h:GT X cl M a a'):GT X cl M (.UnaryOp .Not a pos) (.not a'):=fun ρ d k t h1 h2=>by
 rw [rE_not] at h1
 obtain ⟨⟨x,kx⟩,h3,h1⟩:=R.bind_ok h1
 cases x with
 | bl i =>
  obtain ⟨rfl,rfl⟩:=okp h1
  (injection h2 with h2; subst h2)
  exact t_not (h ρ _ kx i h3 rfl)
 | _=>injection h1
theorem jv (h:GW X cl M a a'):GT X cl M a a':=fun ρ d k t h1 h2=>(h ρ d k t h1 h2).pt
theorem gw_and1 (h:GT X cl M a a'):GW X cl M (.BoolOp .And [a] pos) a':=fun ρ d k t h1 h2=>w_one_and (h ρ d k t h1 h2)
theorem iq (h:GT X cl M a a'):GW X cl M (.BoolOp .Or [a] pos) a':=fun ρ d k t h1 h2=>w_one_or (h ρ d k t h1 h2)
theorem gw_and (h:GT X cl M a a') (hb:GW X cl M (.BoolOp .And (b::rest) pos) b'):GW X cl M (.BoolOp .And (a::b::rest) pos) (.and a' b'):=fun ρ d k t h1 h2=>by
 rw [rE_and] at h1
 obtain ⟨⟨x,kx⟩,h3,h1⟩:=R.bind_ok h1
 cases x with
 | bl i =>
  cases i with
  | true=>exact w_and (t:=true) (u:=t) (h ρ _ kx true h3 rfl) fun _=>hb ρ d k t h1 h2
  | false =>
   obtain ⟨rfl,rfl⟩:=okp h1
   (injection h2 with h2; subst h2)
   exact w_and (t:=false) (u:=true) (h ρ _ kx false h3 rfl) fun z=>(nomatch z)
 | _=>injection h1
theorem gw_or (h:GT X cl M a a') (hb:GW X cl M (.BoolOp .Or (b::rest) pos) b'):GW X cl M (.BoolOp .Or (a::b::rest) pos) (.or a' b'):=fun ρ d k t h1 h2=>by
 rw [rE_or] at h1
 obtain ⟨⟨x,kx⟩,h3,h1⟩:=R.bind_ok h1
 cases x with
 | bl i =>
  cases i with
  | false=>exact w_or (t:=false) (u:=t) (h ρ _ kx false h3 rfl) fun _=>hb ρ d k t h1 h2
  | true =>
   obtain ⟨rfl,rfl⟩:=okp h1
   (injection h2 with h2; subst h2)
   exact w_or (t:=true) (u:=true) (h ρ _ kx true h3 rfl) fun z=>(nomatch z)
 | _=>injection h1
noncomputable def cpOf:Cp→CmpOp
 | .eq=>.Eq | .ne=>.NotEq | .lt=>.Lt | .le=>.LtE | .gt=>.Gt | .ge=>.GtE | .isN=>.Is | .notN=>.IsNot | .mem=>.In | .nmem=>.NotIn
noncomputable def cR (X:Cx) (cl:Nat→Addr) (op:CmpOp) (d1 d2:D) (t:Bool):Prop:=∀ (pins:List (Addr × Obj)) (s:Shared) (σ:L2.St) (H:Hp) (x y:V) (v u:Value) (Q:VK) (f g:List Addr),Inv X pins σ H s→RelV x v→RelV y u→Rep cl H d1 x f→Rep cl H d2 y g→Q (.bl t) H →
 wpAny (model X.prog X.w) X.A (wg op v u) (EP X pins σ Q) X.xe s
theorem cR.of {op:CmpOp} {r:R2} {d1 d2:D} {t:Bool} (ho:OpR X (wg op) r) (hr:∀ x y H (Q:VK) f g,Rep cl H d1 x f→Rep cl H d2 y g→Q (.bl t) H→r x y H Q):cR X cl op d1 d2 t :=
 fun pins s σ H x y v u Q f g I rx ry r1 r2 q=>ho pins s σ H x y v u Q I rx ry (hr x y H Q f g r1 r2 q)
noncomputable def rCmp (cl:Nat→Addr) (d1 d2:D) (t:Bool):R2:=fun x y H Q=>∃ f g,Rep cl H d1 x f∧Rep cl H d2 y g∧Q (.bl t) H
theorem cR.opR {op:CmpOp} {d1 d2:D} {t:Bool} (h:cR X cl op d1 d2 t):OpR X (wg op) (rCmp cl d1 d2 t):=fun pins s σ H x y v u Q I rx ry hh_=>(by obtain ⟨f,g,r1,r2,q⟩:=hh_; exact (h pins s σ H x y v u Q f g I rx ry r1 r2 q))
theorem flat_atom {d:D} {x:V} {H:Hp} {f:List Addr} {y:D} {k:Bool} (h:atomEq d y=some k) (r:Rep cl H d x f):eK x=true∧f=[]:=by
 cases d with
 | int i=>rw [r.1]; exact ⟨rfl,r.2⟩
 | _=>injection h
theorem flat_atom2 {d:D} {x:V} {H:Hp} {f:List Addr} {y:D} {k:Bool} (h:atomEq y d=some k) (r:Rep cl H d x f):eK x=true:=by
 cases y with
 | int j =>
  cases d with
  | int i=>rw [r.1]; rfl
  | _=>injection h
 | _=>injection h
theorem eqV_atom {d y:D} {u v:V} {H:Hp} {f g:List Addr} {k:Bool} (h:atomEq d y=some k) (r:Rep cl H d u f) (r':Rep cl H y v g):eqV u v=k:=by
 cases d with
 | int i =>
  cases y with
  | int j=>rw [r.1,r'.1]; cases h; rfl
  | _=>injection h
 | _=>injection h
set_option tactic.hygienic true in
theorem mem_rep {d:D} {x:V} {H:Hp} {f:List Addr} (rx:Rep cl H d x f):∀ {l:List D} {vs:List V} {g:List Addr} {k:Bool},memL d l=some k→RepL cl H l vs g→vs.all eK=true∧inV x vs=k∧(l≠[]→eK x=true):=by
 intro x_0
 induction x_0 with
 | nil =>
  intro vs g k h r
  obtain ⟨e,_⟩:=r
  subst e
  (injection h with h; subst h)
  exact ⟨rfl,rfl,fun z=>absurd rfl z⟩
 | cons y l ih_ =>
  intro vs g k h r
  obtain ⟨v,vr,f1,g1,e,_,r1,r2⟩:=r
  subst e
  simp only [memL] at h
  split at h
  ·rename_i p q hp hq
   (injection h with h; subst h)
   obtain ⟨h1,h2,_⟩:=ih_ hq r2
   refine ⟨by rw [mi,(flat_atom hp r1).1,h1]; rfl, ?_,fun _=>flat_atom2 hp rx⟩
   show (List.any (v::vr) fun y=>eqV y x)=_
   rw [vj,eqV_atom hp r1 rx]
   show (p || inV x vr)=_
   rw [h2]
  ·injection h
end
end Vi
namespace Vi
open PySem PySem.Spec PyProof.Rows L2
section
variable {X:Cx} {cl:Nat→Addr} {H:Hp}
theorem val_rep {κ:Type} [DecidableEq κ] {k:κ}:∀ {l:List (κ × D)} {kvs:List (κ × V)} {f:List Addr},l.map (·.1)=kvs.map (·.1)→RepL cl H (l.map (·.2)) (kvs.map (·.2)) f →
  (valD l k=none∧valV kvs k=none)∨∃ dv w fw,valD l k=some dv∧valV kvs k=some w∧Rep cl H dv w fw∧∀ b∈fw,b∈f:=by
 intro x_0
 induction x_0 with
 | nil =>
  intro x_1
  cases x_1 with
  | nil =>
   intro _ _ _
   exact .inl ⟨rfl,rfl⟩
  | cons _ _ =>
   intro _ e _
   simp at e
 | cons p_0 l ih_ =>
  obtain ⟨k1,d⟩:=p_0
  intro x_1
  cases x_1 with
  | nil =>
   intro _ e _
   simp at e
  | cons p_1 kvs =>
   obtain ⟨k2,v⟩:=p_1
   intro f e r
   rw [zc,zc] at e r
   injection e with e1 e2
   obtain ⟨v',vr,f1,g1,ev,ef,r1,r2⟩:=r
   injection ev with ev1 ev2
   subst ev1; subst ev2; subst ef
   have e1:k1=k2:=e1
   subst e1
   by_cases h:k1=k
   ·refine .inr ⟨d,v,f1, ?_,gb h,r1,fun b hb=>zk _ hb⟩
    simp [valD,vc,h]
   ·have h1:valD ((k1,d)::l) k=valD l k:=by simp [valD,vc,h]
    rw [h1,gc (p:=(k1,v)) h]
    rcases ih_ e2 r2 with z | ⟨dv,w,fw,z1,z2,z3,z4⟩
    ·exact .inl z
    ·exact .inr ⟨dv,w,fw,z1,z2,z3,fun b hb=>zd _ (z4 b hb)⟩
theorem jl {d:D} {v:V} {g:List Addr} {k:Key} (h:cA d=some k) (r:Rep cl H d v g):v=kV k:=by
 cases d with
 | int i=>(injection h with h; subst h); exact r.1
 | _=>injection h
set_option tactic.hygienic true in
theorem ji:∀ {l:List D} {vs:List V} {g:List Addr} {ks:List Key},cH l=some ks→RepL cl H l vs g→vs=ks.map kV:=by
 intro x_0
 induction x_0 with
 | nil =>
  intro _ _ _ h r
  (injection h with h; subst h); exact r.1
 | cons d l ih_ =>
  intro vs g ks h r
  obtain ⟨v,vr,f1,g1,ev,ef,r1,r2⟩:=r
  simp only [cH] at h
  split at h
  ·rename_i k ks' h1 h2
   (injection h with h; subst h)
   rw [ev,jl h1 r1,ih_ h2 r2]
   rfl
  ·injection h
set_option tactic.hygienic true in
theorem gp {d y:D} {x v:V} {f g:List Addr} {o:Option D} (rd:Rep cl H d x f) (ry:Rep cl H y v g) (h:dk d y=some o) :
  ∃ a o',x=.ref a∧IsD H a∧DGet H a v o'∧((o=none∧o'=none)∨∃ dv w fw,o=some dv∧o'=some w∧Rep cl H dv w fw∧∀ b∈fw,b∈f):=by
 cases d with
 | dK l =>
  simp only [dk] at h
  split at h
  ·rename_i k hk
   (injection h with h; subst h)
   refine zz fun P_ k_=>?_
   obtain ⟨a,f',kvs,e,ef,ha,hks,r⟩:=rd
   refine k_ ?_
   refine ⟨a,valV kvs k,e,.inl ⟨kvs,ha⟩,by rw [jl hk ry]; exact .inl ⟨kvs,k,ha,rfl,rfl⟩, ?_⟩
   rcases val_rep (k:=k) hks (RepM.l.mp r) with z | ⟨dv,w,fw,z1,z2,z3,z4⟩
   ·exact .inl z
   ·exact .inr ⟨dv,w,fw,z1,z2,z3,fun b hb=>by rw [ef]; exact z8 _ (z4 b hb)⟩
  ·injection h
 | dT l =>
  cases y with
  | tup ks =>
   simp only [dk] at h
   split at h
   ·rename_i k hk
    (injection h with h; subst h)
    refine zz fun P_ k_=>?_
    obtain ⟨a,f',kvs,e,ef,ha,hks,r⟩:=rd
    obtain ⟨b,vs,eb,hb,rl⟩:=ry
    refine k_ ?_
    have ev:=ji hk rl
    subst ev
    refine ⟨a,valV kvs k,e,.inr ⟨kvs,.inl ha⟩,by rw [eb]; exact DGet.t ha hb, ?_⟩
    rcases val_rep (k:=k) hks (RepT.l.mp r) with z | ⟨dv,w,fw,z1,z2,z3,z4⟩
    ·exact .inl z
    ·exact .inr ⟨dv,w,fw,z1,z2,z3,fun b hb=>by rw [ef]; exact z8 _ (z4 b hb)⟩
   ·injection h
  | _=>injection h
 | _=>injection h
theorem any_keys {κ:Type} [DecidableEq κ] {k:κ}:∀ {l:List (κ × D)} {kvs:List (κ × V)},l.map (·.1)=kvs.map (·.1)→(l.any fun kv=>decide (kv.1=k))=(kvs.any fun kv=>decide (kv.1=k)):=by
 intro x_0
 induction x_0 with
 | nil =>
  intro x_1
  cases x_1 with
  | nil =>
   intro _
   exact rfl
  | cons _ _ =>
   intro e
   simp at e
 | cons p_0 l ih_ =>
  obtain ⟨k1,d⟩:=p_0
  intro x_1
  cases x_1 with
  | nil =>
   intro e
   simp at e
  | cons p_1 kvs =>
   obtain ⟨k2,v⟩:=p_1
   intro e
   rw [zc,zc] at e
   injection e with e1 e2
   have e1:k1=k2:=e1
   rw [vj,vj,ih_ e2,e1]
theorem put_rep {κ:Type} [DecidableEq κ] {k:κ} {d:D} {w:V} {l:List (κ × D)} {kvs:List (κ × V)} {f:List Addr} (e:l.map (·.1)=kvs.map (·.1)) (r:RepL cl H (l.map (·.2)) (kvs.map (·.2)) f) (rw':Rep cl H d w []) :
  (putD l k d).map (·.1)=(putK kvs k w).map (·.1)∧∃ f',f'.Sublist f∧RepL cl H ((putD l k d).map (·.2)) ((putK kvs k w).map (·.2)) f':=by
 unfold putD putK
 rw [any_keys e]
 by_cases h:(kvs.any fun kv=>decide (kv.1=k))=true
 ·rw [if_pos h,if_pos h]
  clear h
  induction l generalizing kvs f with
  | nil =>
   cases kvs with
   | nil=>exact ⟨rfl,f,ra _,r⟩
   | cons _ _=>simp at e
  | cons p l ih =>
   cases kvs with
   | nil=>simp at e
   | cons q kvs =>
    obtain ⟨k1,d1⟩:=p
    obtain ⟨k2,v1⟩:=q
    rw [zc,zc] at e r
    injection e with e1 e2
    have e1:k1=k2:=e1
    subst e1
    refine zz fun P_ k_=>?_
    obtain ⟨v',vr,f1,g1,ev,ef,r1,r2⟩:=r
    refine k_ ?_
    injection ev with ev1 ev2
    subst ev1; subst ev2; subst ef
    refine zz fun P_ k_=>?_
    obtain ⟨h1,f',h2,h3⟩:=ih e2 r2
    refine k_ ?_
    rw [zc,zc,zc,zc,zc,zc]
    by_cases hk:k1=k
    ·simp only [if_pos hk]
     refine ⟨by rw [h1],f',h2.trans (List.sublist_append_right _ _), ?_⟩
     unfold RepL
     exact ⟨w,_,[],f',rfl,rfl,rw',h3⟩
    ·simp only [if_neg hk]
     refine ⟨by rw [h1],f1++f',pe.append (ra _) h2, ?_⟩
     unfold RepL
     exact ⟨v1,_,f1,f',rfl,rfl,r1,h3⟩
 ·rw [if_neg h,if_neg h]
  refine ⟨by rw [y3,y3,e]; rfl,f,ra _, ?_⟩
  rw [y3,y3]
  have:=r.append (show RepL cl H [d] [w] [] by unfold RepL; exact ⟨w,[],[],[],rfl,rfl,rw',⟨rfl,rfl⟩⟩)
  rwa [xf] at this
set_option tactic.hygienic true in
theorem dput_rep {d d' y vd:D} {x v w:V} {f g:List Addr} (rd:Rep cl H d x f) (n:f.Nodup) (nf:∀ b∈f,NF H b) (ry:Rep cl H y v g) (rw':Rep cl H vd w []) (h:gU d y vd=some d') :
  ∃ a f' o,x=.ref a∧DPut H a v w (upd H a o)∧(∀ b∈f',b∈f)∧a∈f∧(a::f').Nodup∧(∀ us,H a≠some (.tup us))∧Rep cl (upd H a o) d' (.ref a) (a::f')∧(∀ ob u,o ≠ .frz ob u):=by
 have hk:∀ {a:Addr} {f':List Addr} {o:HO},a∉f'→(∀ us,H a≠some (.tup us))→Keep f' H (upd H a o):=fun {a f' o} hn ht=>⟨fun b hb=>ah (fun z=>hn (z ▸ hb)),fun b us z=>by
  have hb:b≠a:=fun q=>ht us (by rw [← q]; exact z)
  rw [ah hb]; exact z⟩
 cases d with
 | dK l =>
  simp only [gU] at h
  split at h
  ·rename_i k hk'
   split at h
   ·rename_i hl
    injection h with h
    subst h
    refine zz fun P_ k_=>?_
    obtain ⟨a,f0,kvs,e,ef,ha,hks,r⟩:=rd
    replace ha:H a=some (.dK kvs):=ha.elim id fun ⟨o,z⟩=>absurd z (nf a (by rw [ef]; exact za) o _)
    obtain ⟨h1,f',h2,h3⟩:=put_rep (k:=k) hks (RepM.l.mp r) rw'
    refine k_ ?_
    have hlen:kvs.length < y4:=by
     have:=congrArg vg hks
     simp at this
     rw [← this,sg]; exact zm ‹_› (by decide)
    subst ef
    have nt:∀ us,H a≠some (.tup us):=fun us z=>by rw [ha] at z; (injection z with z; injection z)
    have naf:a∉f':=fun z=>(y0.mp n).1 (h2.subset z)
    refine ⟨a,f',.dK (putK kvs k w),e,by rw [jl hk' ry]; exact DPut.k ha hlen,fun b hb=>z8 _ (h2.subset hb),za,y0.mpr ⟨naf,(y0.mp n).2.sublist h2⟩,nt, ?_,fun _ _ z=>nomatch z⟩
    unfold Rep
    exact ⟨a,f',putK kvs k w,rfl,rfl,.inl ai,h1,RepM.l.mpr (h3.keep (hk naf nt))⟩
   ·injection h
  ·injection h
 | dT l =>
  cases y with
  | tup ks =>
   simp only [gU] at h
   split at h
   ·rename_i k hk'
    split at h
    ·rename_i hl
     injection h with h
     subst h
     refine zz fun P_ k_=>?_
     obtain ⟨a,f0,kvs,e,ef,ha,hks,r⟩:=rd
     obtain ⟨b,vs,eb,hb,rl⟩:=ry
     refine k_ ?_
     have ev:=ji hk' rl
     subst ev
     refine zz fun P_ k_=>?_
     obtain ⟨h1,f',h2,h3⟩:=put_rep (k:=k) hks (RepT.l.mp r) rw'
     refine k_ ?_
     have hlen:kvs.length < y4:=by
      have:=congrArg vg hks
      simp at this
      rw [← this,sg]; exact zm ‹_› (by decide)
     subst ef
     have nt:∀ us,H a≠some (.tup us):=fun us z=>by rw [ha] at z; (injection z with z; injection z)
     have naf:a∉f':=fun z=>(y0.mp n).1 (h2.subset z)
     refine ⟨a,f',.dT (putK kvs k w),e,by rw [eb]; exact DPut.t ha hb hlen,fun b hb=>z8 _ (h2.subset hb),za,y0.mpr ⟨naf,(y0.mp n).2.sublist h2⟩,nt, ?_,fun _ _ z=>nomatch z⟩
     unfold Rep
     exact ⟨a,f',putK kvs k w,rfl,rfl,ai,h1,RepT.l.mpr (h3.keep (hk naf nt))⟩
    ·injection h
   ·injection h
  | _=>injection h
 | _=>injection h
end
section
variable {X:Cx} {cl:Nat→Addr} {H:Hp}
set_option tactic.hygienic true in
theorem eqLs_keys {n:Nat}:∀ {l m:List D} {ks js:List Key},cH l=some ks→cH m=some js→eqLs (eqN (n+1)) l m=some (decide (ks=js)):=by
 intro x_0
 induction x_0 with
 | nil =>
  intro x_1
  cases x_1 with
  | nil =>
   intro ks js h1 h2
   (injection h1 with h1; subst h1); (injection h2 with h2; subst h2); rfl
  | cons d m =>
   intro ks js h1 h2
   (injection h1 with h1; subst h1)
   simp only [cH] at h2
   split at h2
   ·(injection h2 with h2; subst h2); rfl
   ·injection h2
 | cons d l ih_ =>
  intro x_1
  cases x_1 with
  | nil =>
   intro ks js h1 h2
   (injection h2 with h2; subst h2)
   simp only [cH] at h1
   split at h1
   ·(injection h1 with h1; subst h1); rfl
   ·injection h1
  | cons e m =>
   intro ks js h1 h2
   simp only [cH] at h1 h2
   split at h1
   ·rename_i k1 k2 a1 a2
    split at h2
    ·rename_i j1 j2 b1 b2
     injection h1 with h1
     injection h2 with h2
     subst h1; subst h2
     have rest:=ih_ a2 b2
     have one:eqN (n+1) d e=some (decide (k1=j1)):=by
      cases d with
      | int i =>
       (injection a1 with a1; subst a1)
       cases e with
       | int j=>(injection b1 with b1; subst b1); rw [eqN_3]; congr 1; by_cases h:i=j <;> simp [h]
       | _=>injection b1
      | _=>injection a1
     simp only [eqLs,one,rest]
     congr 1
     by_cases h:k1=j1 <;> by_cases h':k2=j2 <;> simp [h,h']
    ·injection h2
   ·injection h1
theorem tup_keys {d:D} {x:V} {f:List Addr} {l:List D} {ks:List Key} (e:d=.tup l) (r:Rep cl H d x f) (h:cH l=some ks):∃ a,x=.ref a∧H a=some (.tup (ks.map kV)):=by
 subst e
 obtain ⟨a,vs,e,ha,r⟩:=r
 exact ⟨a,e,by rw [ha,ji h r]⟩
theorem kV_inj:∀ {a b:Key},kV a=kV b→a=b
 | .inl a,.inl b,h=>by (injection h with h; subst h); rfl
 | .inr a,.inr b,h=>by (injection h with h; subst h); rfl
 | .inl _,.inr _,h=>nomatch h
 | .inr _,.inl _,h=>nomatch h
theorem mapKV_inj:∀ {a b:List Key},a.map kV=b.map kV→a=b:=by
 intro x_0
 induction x_0 with
 | nil =>
  intro x_1
  cases x_1 with
  | nil =>
   intro _
   exact rfl
  | cons _ _ =>
   intro h
   exact nomatch h
 | cons x a ih_ =>
  intro x_1
  cases x_1 with
  | nil =>
   intro h
   exact nomatch h
  | cons y b =>
   intro h
   injection h with h1 h2
   rw [kV_inj h1,ih_ h2]
open Classical in
noncomputable def isT (H:Hp) (k:List Key) (u:Value):Bool:=decide (∃ a,u=.ref a∧H a=some (.tup (k.map kV)))
theorem isT_of {k j:List Key} {a:Addr} (h:H a=some (.tup (j.map kV))):isT H k (.ref a)=decide (j=k):=by
 unfold isT
 apply decide_eq_decide.mpr
 constructor
 ·rintro ⟨b,e,z⟩
  (injection e with e; subst e)
  rw [h] at z
  injection z with z
  injection z with z
  exact mapKV_inj z
 ·rintro rfl
  exact ⟨a,rfl,h⟩
set_option tactic.hygienic true in
theorem memT_rep {pins:List (Addr × Obj)} {σ:L2.St} {s:Shared} (I:Inv X pins σ H s) {x:V} {v:Value} {f:List Addr} {t:List D} {k:List Key} (hk:cH t=some k) (rx:Rep cl H (.tup t) x f) (rv:RelV x v) {A:Around} (hA:A.units+2 < cLine) :
  ∀ {l:List D} {vs:List V} {us:List Value} {g:List Addr} {ks:List (List Key)},tupKs l=some ks→RepL cl H l vs g→Vals vs us→(∀ u∈us,xz A s u v (isT H k u))∧us.any (isT H k)=ks.any fun j=>decide (j=k):=by
 intro x_0
 induction x_0 with
 | nil =>
  intro vs us g ks h r w
  (injection h with h; subst h)
  obtain ⟨e,_⟩:=r
  subst e
  cases w
  exact And.intro (fun u hu=>absurd hu xg) rfl
 | cons d l ih_ =>
  intro vs us g ks h r w
  obtain ⟨y,vr,f1,g1,e,_,r1,r2⟩:=r
  subst e
  cases w with
  | cons ry rr =>
   cases d with
   | tup m =>
    simp only [tupKs] at h
    split at h
    ·rename_i j js hj hjs
     (injection h with h; subst h)
     obtain ⟨h1,h2⟩:=ih_ hjs r2 rr
     obtain ⟨a,ea,ha⟩:=tup_keys rfl r1 hj
     have ry0:=ry
     subst ea
     subst ry
     have e1:=isT_of (k:=k) ha
     refine ⟨fun u hu=>?_,by rw [vj,vj,h2,e1]⟩
     rcases y6.mp hu with rfl | hu
     ·rw [e1]
      exact (eq_ok (n:=2) (a:=.tup m) (b:=.tup t) I (eqLs_keys hj hk) r1 rx ry0 rv hA).2.1
     ·exact h1 u hu
    ·injection h
   | _=>injection h
set_option tactic.hygienic true in
theorem memT_ok {d1:D} {l:List D} {k:Bool} (hu:X.A.units+8 < cLine) (h:memT d1 l=some k):cR X cl .In d1 (.lst l) k∧cR X cl .NotIn d1 (.lst l) (!k):=by
 cases d1 with
 | tup t =>
  simp only [memT] at h
  split at h
  ·rename_i j js hj hjs
   (injection h with h; subst h)
   have hA:X.A.in1.units+2 < cLine:=by show X.A.units+1+2 < cLine; (clear hj hjs; omega)
   refine ⟨fun pins s σ H x y v u Q f g I rx ry r1 r2 q=>?_,fun pins s σ H x y v u Q f g I rx ry r1 r2 q=>?_⟩
   all_goals
    refine zz fun P_ k_=>?_
    obtain ⟨a,vs,its,g',e1,_,il,vv,rl⟩:=lst_val I r2 ry
    refine k_ ?_
    subst e1
    obtain ⟨m1,m2⟩:=memT_rep I hj r1 rx hA hjs rl vv
    have m3:its.toArray.any (isT H j)=js.any fun i=>decide (i=j):=by rw [← m2]; simp
   ·refine SeqAt.in_listAt (isT H j) il (fun w hw=>m1 w (by simpa using hw)) ⟨.bl _,H,I,rfl, ?_⟩
    rw [m3]; exact q
   ·refine SeqAt.notIn_listAt (isT H j) il (fun w hw=>m1 w (by simpa using hw)) ⟨.bl _,H,I,rfl, ?_⟩
    rw [m3]; exact q
  ·injection h
 | _=>injection h
end
section
variable {X:Cx} {cl:Nat→Addr} {M:Tab} {a b c e o:Expr} {es rest:List Expr} {pos p p2 apos:Pos} {a' b' c' e' o':E} {es':List E}
theorem isN_rep {d:D} {x:V} {H:Hp} {f:List Addr} (r:Rep cl H d x f):decide (x=.non)=isNon d:=by
 cases d
 case non=>rw [r.1]; rfl
 case bl=>rw [r.1]; rfl
 case int=>rw [r.1]; rfl
 case str=>rw [r.1]; rfl
 case tup=>obtain ⟨a,vs,e,_,_⟩:=r; rw [e]; rfl
 case lst=>obtain ⟨a,vs,f,e,_,_,_⟩:=r; rw [e]; rfl
 case dK=>obtain ⟨a,f,kvs,e,_,_,_,_⟩:=r; rw [e]; rfl
 case dT=>obtain ⟨a,f,kvs,e,_,_,_,_⟩:=r; rw [e]; rfl
 case obj=>obtain ⟨a,dx,f,gs,e,_,_,_,_,_⟩:=r; rw [e]; rfl
theorem mem_dict {d1 d2:D} {o:Option D} (hu:X.A.units+1 < cLine) (h1:dk d2 d1=some o):cR X cl .In d1 d2 o.isSome∧cR X cl .NotIn d1 d2 (!o.isSome):=by
 have key:∀ {H:Hp} {x y:V} {f g:List Addr},Rep cl H d1 x f→Rep cl H d2 y g→∃ a o',y=.ref a∧DGet H a x o'∧o'.isSome=o.isSome:=fun {H x y f g} r1 r2=>by
  refine zz fun P_ k_=>?_
  obtain ⟨a,o',ey,_,dg,ho⟩:=gp r2 r1 h1
  refine k_ ?_
  exact ⟨a,o',ey,dg,ho.elim (fun z=>by rw [z.1,z.2]; rfl) fun z=>by obtain ⟨_,_,_,z1,z2,_⟩:=z; rw [z1,z2]; rfl⟩
 refine ⟨fun pins s σ H x y v u Q f g I rx ry r1 r2 q=>?_,fun pins s σ H x y v u Q f g I rx ry r1 r2 q=>?_⟩
 ·refine zz fun P_ k_=>?_
  obtain ⟨a,o',ey,dg,eo⟩:=key r1 r2
  refine k_ ?_
  subst ey
  subst ry
  exact d_in hu I dg rx fun s3 I3=>⟨.bl o'.isSome,H,I3,rfl,by rw [eo]; exact q⟩
 ·refine zz fun P_ k_=>?_
  obtain ⟨a,o',ey,dg,eo⟩:=key r1 r2
  refine k_ ?_
  subst ey
  subst ry
  exact d_notIn hu I dg rx fun s3 I3=>⟨.bl (!o'.isSome),H,I3,rfl,by rw [eo]; exact q⟩
theorem mem_seq {d1 d2:D} {l:List D} {k:Bool} (hk:(cA d1).isSome=true) (h:memL d1 l=some k) (rd:∀ {H:Hp} {y:V} {g:List Addr},Rep cl H d2 y g→∃ p vs g',y=.ref p∧(SqL X.K H p vs∨SqT X.K H p vs)∧RepL cl H l vs g'):cR X cl .In d1 d2 k∧cR X cl .NotIn d1 d2 (!k):=by
 have flatx:∀ {x:V} {H:Hp} {f:List Addr},Rep cl H d1 x f→eK x=true:=fun {x H f} r=>by
  cases d1 with
  | int i=>rw [r.1]; rfl
  | _=>injection hk
 have key:∀ {H:Hp} {x y:V} {f g:List Addr},Rep cl H d1 x f→Rep cl H d2 y g→∃ p vs,y=.ref p∧(SqL X.K H p vs∨SqT X.K H p vs)∧eK x=true∧vs.all eK=true∧inV x vs=k:=fun {H x y f g} r1 r2=>by
  refine zz fun P_ k_=>?_
  obtain ⟨p,vs,g',e,hl,rl⟩:=rd r2
  obtain ⟨m1,m2,_⟩:=mem_rep r1 h rl
  refine k_ ?_
  exact ⟨p,vs,e,hl,flatx r1,m1,m2⟩
 refine ⟨cR.of op_in_seq fun x y H Q f g r1 r2 q=>?_,cR.of op_notIn_seq fun x y H Q f g r1 r2 q=>?_⟩
 ·refine zz fun P_ k_=>?_
  obtain ⟨p,vs,e,hl,fx,m1,m2⟩:=key r1 r2
  refine k_ ?_
  exact ⟨p,vs,e,hl,fx,m1,by rw [m2]; exact q⟩
 ·refine zz fun P_ k_=>?_
  obtain ⟨p,vs,e,hl,fx,m1,m2⟩:=key r1 r2
  refine k_ ?_
  exact ⟨p,vs,e,hl,fx,m1,by rw [m2]; exact q⟩
theorem mem_ok {d1 d2:D} {k:Bool} (hu:X.A.units+8 < cLine) (h:memD d1 d2=some k):cR X cl .In d1 d2 k∧cR X cl .NotIn d1 d2 (!k):=by
 have hu1:X.A.units+1 < cLine:=by (clear h; omega)
 have dict:(match dk d2 d1 with | some o=>some o.isSome | none=>none)=some k→cR X cl .In d1 d2 k∧cR X cl .NotIn d1 d2 (!k):=fun h=>by
  cases ho:dk d2 d1 with
  | none=>rw [ho] at h; injection h
  | some o=>rw [ho] at h; injection h with h; subst h; exact mem_dict hu1 ho
 cases d2 with
 | lst l =>
  by_cases hk:(cA d1).isSome=true
  ·exact mem_seq hk ((if_pos hk).symm.trans h) fun r=>let ⟨p,vs,g',e,hl,rl⟩:=bz (K:=X.K) r; ⟨p,vs,g',e,.inl hl,rl⟩
  ·exact memT_ok hu ((if_neg hk).symm.trans h)
 | tup l =>
  by_cases hk:(cA d1).isSome=true
  ·exact mem_seq hk ((if_pos hk).symm.trans h) fun r=>let ⟨p,vs,e,hl,rl⟩:=cJ (K:=X.K) r; ⟨p,vs,_,e,.inr hl,rl⟩
  ·exact absurd ((if_neg hk).symm.trans h) (by intro z; injection z)
 | dK l=>exact dict h
 | dT l=>exact dict h
 | _=>exact dict h
theorem cmp_ok {o:Cp} {d1 d2:D} {t:Bool} (hu:X.A.units+8 < cLine) (h:cmpD o d1 d2=.ok t):cR X cl (cpOf o) d1 d2 t:=by
 have intc:∀ {op:CmpOp} {g:Int→Int→Bool},OpR X (wg op) (rI0 fun a b=>.bl (g a b))→i2 (fun a b=>.ok (g a b)) d1 d2=.ok t→cR X cl op d1 d2 t:=fun {op g} ho h=>by
  obtain ⟨i,j,e1,e2,h⟩:=i2_ok h
  subst e1; subst e2
  injection h with h; subst h
  exact cR.of ho fun x y H Q f g' r1 r2 q=>⟨i,j,r1.1,r2.1,q⟩
 have eqc:∀ {g:Bool→Bool},(match eqD d1 d2 with | some k=>R.ok (g k) | none=>.bad)=.ok t→∃ k,eqD d1 d2=some k∧g k=t:=fun {g} h=>by
  cases hk:eqD d1 d2 with
  | none=>rw [hk] at h; injection h
  | some k=>rw [hk] at h; injection h with h; exact ⟨k,rfl,h⟩
 have memc:∀ {g:Bool→Bool},(match memD d1 d2 with | some k=>R.ok (g k) | none=>.bad)=.ok t→∃ k,memD d1 d2=some k∧g k=t:=fun {g} h=>by
  cases hk:memD d1 d2 with
  | none=>rw [hk] at h; injection h
  | some k=>rw [hk] at h; injection h with h; exact ⟨k,rfl,h⟩
 have non2:isNon d2=true→d2=.non:=fun h=>by
  cases d2 with
  | non=>rfl
  | _=>injection h
 cases o with
 | eq =>
  obtain ⟨k,hk,e⟩:=eqc (g:=id) h
  subst e
  exact cR.of (op_eqD hu) fun x y H Q f g r1 r2 q=>⟨d1,d2,k,f,g,r1,r2,hk,q⟩
 | ne =>
  obtain ⟨k,hk,e⟩:=eqc h
  subst e
  exact cR.of (op_neD hu) fun x y H Q f g r1 r2 q=>⟨d1,d2,k,f,g,r1,r2,hk,q⟩
 | lt=>exact intc op_lt h
 | le=>exact intc op_le h
 | gt=>exact intc op_gt h
 | ge=>exact intc op_ge h
 | isN =>
  obtain ⟨h1,h2⟩:=ij h
  have:=non2 h1
  subst this; subst h2
  exact cR.of op_isN fun x y H Q f g r1 r2 q=>⟨r2.1,by rw [isN_rep r1]; exact q⟩
 | notN =>
  obtain ⟨h1,h2⟩:=ij h
  have:=non2 h1
  subst this; subst h2
  exact cR.of op_notN fun x y H Q f g r1 r2 q=>⟨r2.1,by rw [isN_rep r1]; exact q⟩
 | mem =>
  obtain ⟨k,hk,e⟩:=memc (g:=id) h
  subst e
  exact (mem_ok hu hk).1
 | nmem =>
  obtain ⟨k,hk,e⟩:=memc h
  subst e
  exact (mem_ok hu hk).2
theorem g_cmp {o:Cp} (hu:X.A.units+8 < cLine) (hm:sv (cpOf o) b=false) (ha:GE X cl M a a') (hb:GE X cl M b b'):GE X cl M (.Compare a [cpOf o] [b] pos) (.cmp o a' b')∧GT X cl M (.Compare a [cpOf o] [b] pos) (.cmp o a' b'):=by
 refine ⟨fun ρ d k h=>?_,fun ρ d k t h h2=>?_⟩
 ·rw [rE_cmp] at h
  obtain ⟨⟨x,kx⟩,h1,h⟩:=R.bind_ok h
  obtain ⟨⟨y,ky⟩,h2,h⟩:=R.bind_ok h
  obtain ⟨z,h3,h⟩:=R.bind_ok h
  obtain ⟨rfl,rfl⟩:=okp h
  exact e_cmp (cmp_ok hu h3).opR hm (ha ρ x kx h1) (hb ρ y ky h2) fun x y H Q f g r1 r2 q=>⟨f,g,r1,r2,q⟩
 ·rw [rE_cmp] at h
  obtain ⟨⟨x,kx⟩,h1,h⟩:=R.bind_ok h
  obtain ⟨⟨y,ky⟩,h2',h⟩:=R.bind_ok h
  obtain ⟨z,h3,h⟩:=R.bind_ok h
  obtain ⟨rfl,rfl⟩:=okp h
  (injection h2 with h2; subst h2)
  exact t_cmp (cmp_ok hu h3).opR hm (ha ρ x kx h1) (hb ρ y ky h2') fun x y H Q f g r1 r2 q=>⟨f,g,r1,r2,q⟩
end
end Vi
namespace Vi
open PySem PySem.Spec PyProof.Rows L2
noncomputable def cw (H H':Hp) (fp:List Addr):Prop:=fp.Nodup∧∀ a∈fp,H a=none∧NF H' a
theorem cw.nil {H H':Hp}:cw H H' []:=⟨vm,fun _ h=>nomatch h⟩
theorem cw.one {H H':Hp} {p:Addr} (h:H p=none) (h':NF H' p):cw H H' [p]:=⟨by simp,fun a ha=>by rw [ye.mp ha]; exact ⟨h,h'⟩⟩
theorem cw.k {ρ:Env} {F:Nat→List Addr} {H H0 H1 H':Hp} {fp:List Addr} (s:Same H H1) (h:cw H1 H' fp):KOk ρ F H H0 H' fp (.sto []):=⟨h.1,fun _ z=>(nomatch z),fun a ha=>.inl (s.free (h.2 a ha).1),fun a ha=>(h.2 a ha).2⟩
theorem cw.kd {ρ:Env} {F:Nat→List Addr} {H H0 H1 H':Hp} {fp:List Addr} {z:D} (s:Same H H1) (h:cw H1 H' fp):KOk ρ F H H0 H' fp (kdOf z):=by
 unfold kdOf
 by_cases hz:z.flat=true
 ·rw [if_pos hz]; exact h.k s
 ·rw [if_neg hz]; exact xm
theorem imm_k {cl:Nat→Addr} {ρ:Env} {F:Nat→List Addr} {H H0 H':Hp} {fp:List Addr} {z:D} {v:V} (r:Rep cl H' z v fp):KOk ρ F H H0 H' fp (immK z):=by
 unfold immK
 by_cases hz:z.imm=true
 ·rw [if_pos hz]; exact KOk.imm r hz
 ·rw [if_neg hz]; exact xm
theorem fI {H:Hp} {a:Addr} {o:HO} (h:∀ ob u,o ≠ .frz ob u):NF (upd H a o) a:=fun ob u z=>by rw [ai] at z; exact h ob u (yy z)
section
variable {X:Cx} {cl:Nat→Addr} {M:Tab} {a b c e o:Expr} {es rest:List Expr} {pos p p2 apos cpos:Pos} {a' b' c' e' o':E} {es':List E}
theorem isd_rep {H:Hp} {d y:D} {x:V} {f:List Addr} {o:Option D} (rd:Rep cl H d x f) (h:dk d y=some o):∃ a,x=.ref a∧IsD H a:=by
 cases d with
 | dK l=>unfold Rep at rd; obtain ⟨a,f',kvs,e,ef,ha,_⟩:=rd; exact ⟨a,e,.inl ⟨kvs,ha⟩⟩
 | dT l=>unfold Rep at rd; obtain ⟨a,f',kvs,e,ef,ha,_⟩:=rd; exact ⟨a,e,.inr ⟨kvs,.inl ha⟩⟩
 | _=>injection h
theorem g_get1 (hu : X.A.units + 1 < cLine) (m : M1 X o "get" apos e cpos) (ho : GE X cl M o o') (he : GE X cl M e e') : GE X cl M (.Call (.Attribute o "get" apos) [e] [] cpos) (.get1 o' e') := fun ρ d k h => by
 rw [rE_get1] at h
 obtain ⟨⟨x,kx⟩,h1,h⟩:=R.bind_ok h
 obtain ⟨⟨y,ky⟩,h2,h⟩:=R.bind_ok h
 simp only at h
 split at h
 ·rename_i r hr
  obtain ⟨rfl,rfl⟩:=okp h
  refine aT (pe_dget1 hu (ho ρ x kx h1) (he ρ y ky h2) m) fun σ H Q hh_=>?_
  obtain ⟨H0,F,S,q⟩:=hh_
  refine ⟨H0,F,S,fun v H1 fp s1 r1 _=>?_⟩
  obtain ⟨a,ea,hd⟩:=isd_rep r1 hr
  refine ⟨a,ea,hd,H0,F,S.step s1,fun w H2 fp2 s2 r2 _=>?_⟩
  obtain ⟨a2,o2,ea2,_,dg,ho2⟩:=gp (r1.same s2) r2 hr
  rw [ea] at ea2
  (injection ea2 with ea2; subst ea2)
  refine ⟨o2,dg, ?_⟩
  rcases ho2 with ⟨z1,z2⟩ | ⟨dv,w2,fw,z1,z2,z3,z4⟩
  ·subst z1; subst z2; exact q .non H2 [] (s1.trans s2) ⟨rfl,rfl⟩ (imm_k (z:=.non) (cl:=cl) (v:=.non) ⟨rfl,rfl⟩)
  ·subst z1; subst z2; exact q w2 H2 fw (s1.trans s2) z3 (imm_k z3)
 ·injection h
theorem g_get2 {f : Expr} {f' : E} (hu : X.A.units + 1 < cLine) (m : M2 X o "get" apos e f cpos) (ho : GE X cl M o o') (he : GE X cl M e e') (hf : GE X cl M f f') : GE X cl M (.Call (.Attribute o "get" apos) [e, f] [] cpos) (.get2 o' e' f') := fun ρ d k h => by
 rw [rE_get2] at h
 obtain ⟨⟨x,kx⟩,h1,h⟩:=R.bind_ok h
 obtain ⟨⟨y,ky⟩,h2,h⟩:=R.bind_ok h
 obtain ⟨⟨z,kz⟩,h3,h⟩:=R.bind_ok h
 simp only at h
 split at h
 ·rename_i r hr
  obtain ⟨rfl,rfl⟩:=okp h
  refine aT (pe_dget2 hu (ho ρ x kx h1) (he ρ y ky h2) (hf ρ z kz h3) m) fun σ H Q hh_=>?_
  obtain ⟨H0,F,S,q⟩:=hh_
  refine ⟨H0,F,S,fun v H1 fp s1 r1 _=>?_⟩
  obtain ⟨a,ea,hd⟩:=isd_rep r1 hr
  refine ⟨a,ea,hd,H0,F,S.step s1,fun w H2 fp2 s2 r2 _=>⟨H0,F,(S.step s1).step s2,fun u H3 fp3 s3 r3 _=>?_⟩⟩
  obtain ⟨a2,o2,ea2,_,dg,ho2⟩:=gp ((r1.same s2).same s3) (r2.same s3) hr
  rw [ea] at ea2
  (injection ea2 with ea2; subst ea2)
  refine ⟨o2,dg, ?_⟩
  rcases ho2 with ⟨z1,z2⟩ | ⟨dv,w2,fw,z1,z2,z3,z4⟩
  ·subst z1; subst z2; exact q u H3 fp3 ((s1.trans s2).trans s3) r3 (imm_k r3)
  ·subst z1; subst z2; exact q w2 H3 fw ((s1.trans s2).trans s3) z3 (imm_k z3)
 ·injection h
theorem eD (hu:X.A.units+1 < cLine) (hs:NoSl b) (ha:GE X cl M a a') (hb:GE X cl M b b'):GE X cl M (.Subscript a b pos) (.dix a' b'):=fun ρ d k h=>by
 rw [rE_dix] at h
 obtain ⟨⟨x,kx⟩,h1,h⟩:=R.bind_ok h
 obtain ⟨⟨y,ky⟩,h2,h⟩:=R.bind_ok h
 simp only at h
 split at h
 ·rename_i r hr
  obtain ⟨rfl,rfl⟩:=okp h
  refine aT (pe_dget hu (ha ρ x kx h1) (hb ρ y ky h2) hs) fun σ H Q hh_=>?_
  obtain ⟨H0,F,S,q⟩:=hh_
  refine tD2 S fun u v H1 H2 f g s1 s2 r1 r2 _ _ _=>?_
  obtain ⟨a2,o2,ea2,_,dg,ho2⟩:=gp r1 r2 hr
  rcases ho2 with ⟨z1,z2⟩ | ⟨dv,w2,fw,z1,z2,z3,z4⟩
  ·injection z1
  ·(injection z1 with z1; subst z1)
   exact ⟨a2,w2,ea2,by rw [← z2]; exact dg,q w2 H2 fw (s1.trans s2) z3 (imm_k z3)⟩
 ·injection h
theorem look_rep {H:Hp} {x:Str}:∀ {fs:List (Str × D)} {gs:List (Str × V)} {f:List Addr},fs.map (·.1)=gs.map (·.1)→RepL cl H (fs.map (·.2)) (gs.map (·.2)) f →
  (fs.lookup x=none∧gs.lookup x=none)∨∃ d w fw,fs.lookup x=some d∧gs.lookup x=some w∧Rep cl H d w fw∧∀ b∈fw,b∈f:=by
 intro x_0
 induction x_0 with
 | nil =>
  intro x_1
  cases x_1 with
  | nil =>
   intro _ _ _
   exact .inl ⟨rfl,rfl⟩
  | cons _ _ =>
   intro _ e _
   simp at e
 | cons p_0 l ih_ =>
  obtain ⟨k1,d⟩:=p_0
  intro x_1
  cases x_1 with
  | nil =>
   intro _ e _
   simp at e
  | cons p_1 kvs =>
   obtain ⟨k2,v⟩:=p_1
   intro f e r
   rw [zc,zc] at e r
   injection e with e1 e2
   obtain ⟨v',vr,f1,g1,ev,ef,r1,r2⟩:=r
   injection ev with ev1 ev2
   subst ev1; subst ev2; subst ef
   have e1:k1=k2:=e1
   subst e1
   rw [yf,yf]
   cases hx:x == k1 with
   | true=>exact .inr ⟨d,v,f1,rfl,rfl,r1,fun b hb=>zk _ hb⟩
   | false =>
    rcases ih_ e2 r2 with z | ⟨dv,w,fw,z1,z2,z3,z4⟩
    ·exact .inl z
    ·exact .inr ⟨dv,w,fw,z1,z2,z3,fun b hb=>zd _ (z4 b hb)⟩
theorem g_fld {x:Str} (hb:sw e x X.env (eval e X.env)=eval e X.env) (hc:∀ c,Cls X.K (cl c)∧dC X.K (cl c) x) (he:GE X cl M e e'):GE X cl M (.Attribute e x pos) (.fld e' x):=fun ρ d k h=>by
 rw [rE_fld] at h
 refine zz fun P_ k_=>?_
 obtain ⟨⟨v,kv⟩,h1,h⟩:=R.bind_ok h
 refine k_ ?_
 cases v with
 | obj c fs =>
  simp only at h
  split at h
  ·rename_i dv hl
   obtain ⟨rfl,rfl⟩:=okp h
   refine aT (pe_fld (he ρ _ kv h1) hb) fun σ H Q hh_=>?_
   refine zz fun P_ k_=>?_
   obtain ⟨H0,F,S,q⟩:=hh_
   refine k_ ?_
   refine ⟨H0,F,S,fun w H1 fp s1 r1 k1=>?_⟩
   have r1':=r1
   refine zz fun P_ k_=>?_
   obtain ⟨a,dx,f,gs,e1,ef,ha,hd,hn,r⟩:=r1
   refine k_ ?_
   rcases look_rep (x:=x) hn (RepF.l.mp r) with ⟨z,_⟩ | ⟨d2,w2,fw,z1,z2,z3,z4⟩
   ·rw [hl] at z; injection z
   ·rw [hl] at z1; (injection z1 with z1; subst z1)
    exact ⟨a,cl c,dx,gs,w2,e1,ha,(hc c).1,(hc c).2,z2,q w2 H1 fw s1 z3 (part_ok z3 (fun b hb=>by rw [ef]; exact z8 _ (z8 _ (z4 b hb))) k1)⟩
  ·injection h
 | _=>injection h
theorem g_ix (hs:PlainIx b) (ha:GE X cl M a a') (hb:GE X cl M b b'):GE X cl M (.Subscript a b pos) (.ix a' b'):=fun ρ d k h=>by
 rw [rE_ix] at h
 obtain ⟨⟨x,kx⟩,h1,h⟩:=R.bind_ok h
 obtain ⟨⟨y,ky⟩,h2,h⟩:=R.bind_ok h
 obtain ⟨z,h3,h⟩:=R.bind_ok h
 obtain ⟨rfl,rfl⟩:=okp h
 exact e_ix h3 (ha ρ x kx h1) (hb ρ y ky h2) hs
theorem aj:GA X cl M [] []:=fun ρ ds k h=>by
 simp only [eV,dS,R.ok.injEq,u3] at h; obtain ⟨rfl,rfl⟩:=h; exact a_nil
theorem ac (hs:zh (e::es) X.env=(false,eval e X.env)::zh es X.env) (h1:GE X cl M e e') (h2:GA X cl M es es'):GA X cl M (e::es) (e'::es'):=fun ρ ds k h=>by
 rw [dS] at h
 obtain ⟨⟨x,kx⟩,g1,h⟩:=R.bind_ok h
 obtain ⟨⟨xs,ks⟩,g2,h⟩:=R.bind_ok h
 obtain ⟨rfl,rfl⟩:=okp h
 exact a_cons (h1 ρ x kx g1) (h2 ρ xs ks g2) hs
theorem jz {x1} (h:GA X cl M es es'):GE X cl M (.Tuple es x1 pos) (.tup es'):=fun ρ d k hr=>by
 rw [rE_tup] at hr
 obtain ⟨⟨xs,ks⟩,g2,hr⟩:=R.bind_ok hr
 simp only at hr
 split at hr
 ·rename_i hl
  obtain ⟨rfl,rfl⟩:=okp hr
  exact e_tup (h ρ xs ks g2) hl
 ·injection hr
theorem cL (h:GA X cl M es es'):GE X cl M (.List es pos) (.lst es'):=fun ρ d k hr=>by
 rw [rE_lst] at hr
 obtain ⟨⟨xs,ks⟩,g2,hr⟩:=R.bind_ok hr
 simp only at hr
 split at hr
 ·rename_i hl
  obtain ⟨rfl,rfl⟩:=okp hr
  exact e_lst (h ρ xs ks g2) hl
 ·injection hr
theorem iw {t:Bool}:GE X cl M (.Dict [] [] pos) (.dnew t):=fun ρ d k h=>by
 simp only [rE_dnew,R.ok.injEq,u3] at h; obtain ⟨rfl,rfl⟩:=h
 cases t with
 | true=>exact aT pe_dnewT fun σ H Q ⟨H0,F,S,q⟩ p hp=>q (.ref p) _ [p] (Same.new hp) (by rw [if_pos rfl]; unfold Rep; exact ⟨p,[],[],rfl,rfl,ai,rfl,by unfold RepT; exact ⟨rfl,rfl⟩⟩) ((cw.one hp (fI (o:=.dT []) (by intro _ _ z; injection z))).k (Same.refl H))
 | false=>exact aT pe_dnewK fun σ H Q hh_ p hp=>(by obtain ⟨H0,F,S,q⟩:=hh_; exact (q (.ref p) _ [p] (Same.new hp) (by rw [if_neg y9]; unfold Rep; exact ⟨p,[],[],rfl,rfl,.inl ai,rfl,by unfold RepM; exact ⟨rfl,rfl⟩⟩) ((cw.one hp (fI (o:=.dK []) (by intro _ _ z; injection z))).k (Same.refl H))))
theorem g_call {i kk:Nat} {f:Addr} {fd:x6} {ps:List Str} {x:Str} (F:FnOk X.prog X.w X.K X.mg X.base CX0 kk f fd ps (spP cl (M.fn i))) (hr:Room kk X.A) (hg:Gl X x) (hm:X.mg x=some (.ref f)) (hk:yb X.K (.ref f)=true) (hb:eN X.K fd ps [])
  (hd : (x == ("__debug__" : Str)) = false) (he : zh (e :: es) X.env = (false, eval e X.env) :: zh es X.env) (hpl : (backTo pos (zh es X.env)).any (·.1) = false) (ha : GA X cl M (e :: es) es') : GE X cl M (.Call (.Name x p) (e :: es) [] pos) (.call i es') := fun ρ d k h => by
 rw [rE_call] at h
 obtain ⟨⟨xs,ks⟩,g2,h⟩:=R.bind_ok h
 obtain ⟨r,g3,h⟩:=R.bind_ok h
 obtain ⟨rfl,rfl⟩:=okp h
 exact e_call F hr hg hm hk hb (ha ρ xs ks g2) g3 hd he hpl
theorem ii {H:Hp} {m:Str} {fs:List (Str × D)} {gs:List (Str × V)} {f:List Addr} (hn:fs.map (·.1)=gs.map (·.1)) (r:RepL cl H (fs.map (·.2)) (gs.map (·.2)) f) (h:fs.lookup m=none):gs.lookup m=none:=by
 rcases look_rep (x:=m) hn r with ⟨_,z⟩ | ⟨d2,w2,fw,z1,_⟩
 ·exact z
 ·rw [h] at z1; injection z1
theorem g_meth {i kk:Nat} {C f:Addr} {fd:x6} {ps:List Str} {m:Str} {pl:Sem Bool} (hC:∀ c,cl c=C) (c:Cls X.K C) (hm:Meth X.K C m f) (F:FnOk X.prog X.w X.K X.mg X.base CX0 kk f fd ps (spP cl (M.fn i))) (hr:Room kk X.A) (hb:eN X.K fd ps [])
  (hst:zh (e::es) X.env=(false,eval e X.env)::zh es X.env) (hpl:(backTo pos (zh es X.env)).any (·.1)=false)
  (ht:eval (.Call (.Attribute o m apos) (e::es) [] pos) X.env=(do
   let ov ← eval o X.env
   standAt apos.atName
   let (f,first) ← holding [ov] (getMethod ov m pl)
   callWith pos f first (backTo pos (zh (e::es) X.env)) (backToKw pos (o3 [] X.env))))
  (ho:GE X cl M o o') (ha:GA X cl M (e::es) es'):GE X cl M (.Call (.Attribute o m apos) (e::es) [] pos) (.meth i m o' es'):=fun ρ d k h=>by
 rw [rE_meth] at h
 refine zz fun P_ k_=>?_
 obtain ⟨⟨x,kx⟩,g1,h⟩:=R.bind_ok h
 obtain ⟨⟨xs,ks⟩,g2,h⟩:=R.bind_ok h
 refine k_ ?_
 cases x with
 | obj ci fs =>
  simp only at h
  split at h
  ·rename_i hl
   refine zz fun P_ k_=>?_
   obtain ⟨r,g3,h⟩:=R.bind_ok h
   obtain ⟨rfl,rfl⟩:=okp h
   refine k_ ?_
   refine aT (pe_meth (pl:=pl) (ho ρ _ kx g1) c hm F hr hb .nil pass0 (ha ρ xs ks g2) hst hpl ht) fun σ H Q hh_=>?_
   refine zz fun P_ k_=>?_
   obtain ⟨H0,F',S,q⟩:=hh_
   refine k_ ?_
   refine ⟨H0,F',S,fun v H1 fp s1 r1 _=>?_⟩
   have r1':=r1
   refine zz fun P_ k_=>?_
   obtain ⟨a,dx,f0,gs,e1,ef,ha',hd,hn,r0⟩:=r1
   refine k_ ?_
   rw [hC ci] at ha'
   refine ⟨a,dx,gs,e1,ha',ii hn (RepF.l.mp r0) hl,H0,F',S.step s1,fun vs H2 fp2 s2 r2 _=>?_⟩
   refine ⟨D.obj ci fs::xs,fp++fp2,r,by rw [xf]; unfold RepL; exact ⟨v,vs,fp,fp2,rfl,rfl,r1'.same s2,r2⟩,g3,fun w H3 fp' s3 r3 nd fr=>q w H3 fp' ((s1.trans s2).trans s3) r3 ⟨nd,fun _ z=>(nomatch z),fun b hb=>.inl ((s1.trans s2).free (fr b hb).1),fun b hb=>(fr b hb).2⟩⟩
  ·injection h
 | _=>injection h
noncomputable def spI (cl:Nat→Addr) (c:Nat) (m:List D→R D):Sp:=fun vs H Q _=>∃ p dx ws ds fp r,vs=.ref p::ws∧H p=some (.ins (cl c) dx [])∧H dx=some (.own p)∧dx≠p∧RepL cl H ds ws fp∧(∀ b∈fp,b≠p∧b≠dx)∧m ds=.ok r ∧
 ∀ H' fp',(∀ b o,H b=some o→b≠p→b≠dx→H' b=some o)→Rep cl H' r (.ref p) fp'→fp'.Nodup→(∀ b∈fp',(b=p∨b=dx∨H b=none)∧NF H' b)→Q .non H'
theorem g_make {i ci kk:Nat} {C f:Addr} {fd:x6} {ps:List Str} {x:Str} (hC:cl ci=C) (Mk':Mk X.K C f) (F:FnOk X.prog X.w X.K X.mg X.base CX0 kk f fd ps (spI cl ci (M.new i))) (hr:Room (kk+1) X.A) (hg:Gl X x) (hm:X.mg x=some (.ref C)) (hb:eN X.K fd ps [])
  (hd : (x == ("__debug__" : Str)) = false) (he : zh (e :: es) X.env = (false, eval e X.env) :: zh es X.env) (hpl : (backTo pos (zh es X.env)).any (·.1) = false) (ha : GA X cl M (e :: es) es') : GE X cl M (.Call (.Name x p) (e :: es) [] pos) (.make i es') := fun ρ d k h => by
 rw [rE_make] at h
 obtain ⟨⟨xs,ks⟩,g2,h⟩:=R.bind_ok h
 obtain ⟨r,g3,h⟩:=R.bind_ok h
 obtain ⟨rfl,rfl⟩:=okp h
 refine aT (pe_make Mk' F hr hg hm hb .nil pass0 (ha ρ xs ks g2) hd he hpl) fun σ H Q hh_=>?_
 obtain ⟨H0,F',S,q⟩:=hh_
 refine ⟨H0,F',S,fun vs H1 fp s1 r1 _=>?_⟩
 intro z dz nz ndz nez
 have sn:Same H1 (upd (upd H1 dz (.own z)) z (.ins C dz [])):=fun b o e=>by
  rw [ah (bg e nz),ah (bg e ndz)]; exact e
 refine ⟨z,dz,vs,xs,fp,r,by rw [xf],by rw [hC]; exact ai,by rw [ah nez,ai],nez,r1.same sn,fun b hb=>⟨fun e=>r1.dom b hb (e ▸ nz),fun e=>r1.dom b hb (e ▸ ndz)⟩,g3,fun H' fp' kp r' nd fr=>⟨rfl, ?_⟩⟩
 have s2:Same H1 H':=fun b o e=>kp b o (sn b o e) (bg e nz) (bg e ndz)
 refine q (.ref z) H' fp' (s1.trans s2) r' ⟨nd,fun _ z=>(nomatch z),fun b hb=>.inl (s1.free ?_),fun b hb=>(fr b hb).2⟩
 rcases (fr b hb).1 with e | e | e
 ·rw [e]; exact nz
 ·rw [e]; exact ndz
 ·exact sn.free e
end
end Vi
namespace Vi
open PySem PySem.Spec PyProof.Rows L2
noncomputable def BiR (X:Cx) (cl:Nat→Addr) (f:Value) (ds:List D) (z:D):Prop:=CallR X f (fun xs H Q=>∃ fp,RepL cl H ds xs fp∧∀ v H' fp',Same H H'→Rep cl H' z v fp'→cw H H' fp'→Q v H')
section
variable {X:Cx} {cl:Nat→Addr} {M:Tab} {a b c e o:Expr} {es rest:List Expr} {pos p p2 apos cpos:Pos} {a' b' c' e' o':E} {es':List E}
theorem rep1 {H:Hp} {d:D} {xs:List V} {fp:List Addr} (r:RepL cl H [d] xs fp):∃ x f,xs=[x]∧Rep cl H d x f:=by
 obtain ⟨v,vr,f,g,e,_,r1,r2⟩:=r
 exact ⟨v,f,by rw [e,r2.1],r1⟩
theorem fH {ds:List D} {z:D} {b:Bi} (h:biD b ds=.ok z):∃ d,ds=[d]:=by
 match ds,h with
 | [d],_=>exact ⟨d,rfl⟩
theorem call_lenR : CallR X (.builtin "len") (fun xs H Q => ∃ a kvs, xs = [V.ref a] ∧ Rd H a (.dK kvs) ∧ Q (.int kvs.length) H) := by
 intro pins s σ H xs us Q I r h
 obtain ⟨a,kvs,rfl,ha,q⟩:=h
 obtain ⟨u,rfl,ru⟩:=g9 r
 subst ru
 exact d_len I ha fun t s' I'=>⟨.int kvs.length,H,I',⟨t,rfl⟩,q⟩
theorem bi_len {ds : List D} {z : D} (h : biD .len ds = .ok z) : BiR X cl (.builtin "len") ds z := by
 intro pins s σ H xs us Q I r hh_
 obtain ⟨fp,rl,q⟩:=hh_
 obtain ⟨d,rfl⟩:=fH h
 obtain ⟨x,f,ex,rx⟩:=rep1 rl
 cases d with
 | lst l =>
  (injection h with h; subst h)
  obtain ⟨p,vs,g,e,hs,hl⟩:=bz (K:=X.K) rx
  refine fN pins s σ H xs us Q I r ⟨p,vs,by rw [ex,e],.inl hs, ?_⟩
  rw [hl.len]
  exact q _ H [] (Same.refl H) ⟨rfl,rfl⟩ cw.nil
 | tup l =>
  (injection h with h; subst h)
  obtain ⟨p,vs,e,hs,hl⟩:=cJ (K:=X.K) rx
  refine fN pins s σ H xs us Q I r ⟨p,vs,by rw [ex,e],.inr hs, ?_⟩
  rw [hl.len]
  exact q _ H [] (Same.refl H) ⟨rfl,rfl⟩ cw.nil
 | dK l =>
  (injection h with h; subst h)
  obtain ⟨p,f',kvs,e,ef,ha,hk,rm⟩:=rx
  refine call_lenR pins s σ H xs us Q I r ⟨p,kvs,by rw [ex,e],ha, ?_⟩
  have:kvs.length=l.length:=by have:=congrArg vg hk; simpa using this.symm
  rw [this]
  exact q _ H [] (Same.refl H) ⟨rfl,rfl⟩ cw.nil
 | _=>injection h
set_option tactic.hygienic true in
theorem sum_rep {H:Hp}:∀ {l:List D} {vs:List V} {g:List Addr} {n:Int},sumD l=.ok n→RepL cl H l vs g→∃ ns:List Int,vs=ns.map V.int∧n=ns.sum:=by
 intro x_0
 induction x_0 with
 | nil =>
  intro vs g n h r
  (injection h with h; subst h); exact ⟨[],r.1,rfl⟩
 | cons d l ih_ =>
  intro vs g n h r
  obtain ⟨v,vr,f1,g1,ev,_,r1,r2⟩:=r
  cases d with
  | int i =>
   simp only [sumD] at h
   split at h
   ·rename_i m hm
    (injection h with h; subst h)
    obtain ⟨ns,e1,e2⟩:=ih_ hm r2
    exact ⟨i::ns,by rw [ev,r1.1,e1]; rfl,by rw [e2,sx]⟩
   ·injection h
   ·injection h
  | _=>injection h
theorem ints_rep {H:Hp}:∀ {l:List D} {vs:List V} {g:List Addr} {ns:List Int},jr l=some ns→RepL cl H l vs g→vs=ns.map V.int:=by
 intro x_0
 induction x_0 with
 | nil =>
  intro vs g n h r
  (injection h with h; subst h); exact r.1
 | cons d l ih_ =>
  intro vs g n h r
  obtain ⟨v,vr,f1,g1,ev,_,r1,r2⟩:=r
  cases d with
  | int i =>
   simp only [jr] at h
   cases hm:jr l with
   | none=>rw [hm] at h; injection h
   | some m =>
    rw [hm] at h
    (injection h with h; subst h)
    rw [ev,r1.1,ih_ hm r2]; rfl
  | _=>injection h
theorem bools_rep {H:Hp}:∀ {l:List D} {vs:List V} {g:List Addr} {ns:List Bool},eI l=some ns→RepL cl H l vs g→vs=ns.map V.bl:=by
 intro x_0
 induction x_0 with
 | nil =>
  intro vs g n h r
  (injection h with h; subst h); exact r.1
 | cons d l ih_ =>
  intro vs g n h r
  obtain ⟨v,vr,f1,g1,ev,_,r1,r2⟩:=r
  cases d with
  | bl i =>
   simp only [eI] at h
   cases hm:eI l with
   | none=>rw [hm] at h; injection h
   | some m =>
    rw [hm] at h
    (injection h with h; subst h)
    rw [ev,r1.1,ih_ hm r2]; rfl
  | _=>injection h
set_option tactic.hygienic true in
theorem bi_sum (hc : X.calm = true) {ds : List D} {z : D} (h : biD .sum ds = .ok z) : BiR X cl (.builtin "sum") ds z := by
 intro pins s σ H xs us Q I r hh_
 obtain ⟨fp,rl,q⟩:=hh_
 obtain ⟨d,rfl⟩:=fH h
 cases d with
 | lst l =>
  simp only [biD_1,biD_2,biD_3,biD_4,biD_5,biD_6,gZ,gY,jK,g0,fP,iM,iL,iK,iJ,iI,iH,iG,iF] at h
  split at h
  ·rename_i n hn
   (injection h with h; subst h)
   obtain ⟨x,f,ex,rx⟩:=rep1 rl
   obtain ⟨p,vs,g,e,hs,hl⟩:=bz (K:=X.K) rx
   obtain ⟨ns,e1,e2⟩:=sum_rep hn hl
   subst ex; subst e; subst e1
   obtain ⟨u,rfl,rx'⟩:=g9 r
   subst rx'
   obtain ⟨its,r',pl,hz⟩:=I.list hs
   have hi:pf its ns:=io r'
   obtain ⟨ys,hx⟩:=hi.allInts.items
   have hl':s.heap.IsList p (intItems ys):=hx ▸ pl.isList
   refine sum_intListG (I.ok.hd hc) hl' fun h' tk t' hk=>?_
   have e3:ns=ys.toList.map (·.1):=by
    rw [← nums_intItems,← hx]
    exact (show numsOf its.toArray.toList=ns from hi.numsOf).symm
   have e4:preSum (numAt ys) ys.size=ns.sum:=by
    rw [preSum_eq,sm (by simp),e3]
   rw [e4,← e2]
   exact ⟨.int n,H,I.kept hk,⟨t',rfl⟩,q _ H [] (Same.refl H) ⟨rfl,rfl⟩ cw.nil⟩
  ·injection h
  ·injection h
 | _=>injection h
theorem bool_at {its:List Value} {bs:List Bool} (r:Vals (bs.map V.bl) its) {i:Nat} {v:Value} (h:its[i]?=some v):∃ b,bs[i]?=some b∧v=.bool b:=by
 have hl:=r.length
 rw [z7] at hl
 have hi:i < its.length:=(yi.mp h).1
 have hi':i < bs.length:=by (clear r h; omega)
 obtain ⟨u,hu,ru⟩:=r.get (i:=i) (x:=.bl bs[i]) (by rw [yn,z9 hi']; rfl)
 rw [h] at hu
 (injection hu with hu; subst hu)
 exact ⟨bs[i],z9 hi',ru⟩
theorem range_any' (bs:List Bool):((vw bs.length).any fun i=>(bs[i]?).getD false)=bs.any id:=by
 rw [Bool.eq_iff_iff,se,se]
 constructor
 ·rintro ⟨i,hi,e⟩
  have hi':=tw.mp hi
  simp only [z9 hi',uh] at e
  exact ⟨_,ro hi',e⟩
 ·rintro ⟨b,hb,e⟩
  obtain ⟨i,hi,rfl⟩:=qg hb
  exact ⟨i,tw.mpr hi,by simp only [z9 hi,uh]; exact e⟩
theorem range_all' (bs:List Bool):((vw bs.length).all fun i=>(bs[i]?).getD true)=bs.all id:=by
 rw [Bool.eq_iff_iff,q4,q4]
 constructor
 ·intro h b hb
  obtain ⟨i,hi,rfl⟩:=qg hb
  have:=h i (tw.mpr hi)
  simp only [z9 hi,uh] at this
  exact this
 ·intro h i hi
  have hi':=tw.mp hi
  simp only [z9 hi',uh]
  exact h _ (ro hi')
theorem kept_it {s:Shared} {h':Heap} {o:Obj} (hk:∀ b x,b∉[s.heap.objs.size]→(s.heap.push o).get? b=some x→h'.get? b=some x):∀ b x,s.heap.get? b=some x→h'.get? b=some x :=
 fun b x e=>hk b x (fun hm=>by rw [ye.mp hm] at e; exact v7 _ (zt e)) (zb _ e)
set_option tactic.hygienic true in
theorem bi_any (hc : X.calm = true) {ds : List D} {z : D} (h : biD .any ds = .ok z) : BiR X cl (.builtin "any") ds z := by
 intro pins s σ H xs us Q I r hh_
 obtain ⟨fp,rl,q⟩:=hh_
 obtain ⟨d,rfl⟩:=fH h
 cases d with
 | lst l =>
  simp only [biD_1,biD_2,biD_3,biD_4,biD_5,biD_6,gZ,gY,jK,g0,fP,iM,iL,iK,iJ,iI,iH,iG,iF] at h
  split at h
  ·rename_i bs hb
   (injection h with h; subst h)
   obtain ⟨x,f,ex,rx⟩:=rep1 rl
   obtain ⟨p,vs,g,e,hs,hl⟩:=bz (K:=X.K) rx
   have e1:=bools_rep hb hl
   subst ex; subst e; subst e1
   obtain ⟨u,rfl,rx'⟩:=g9 r
   subst rx'
   obtain ⟨its,r',pl,hz⟩:=I.list hs
   have hlt:p < s.heap.objs.size:=by obtain ⟨_,e,_⟩:=pl.isList; exact zt e
   refine call_any_walk (p0 pl.isList ?_)
   refine ⟨s.heap.objs.size,[s.heap.objs.size,p],[s.heap.objs.size],its.toArray.size,_,_,fun i=>(bs[i]?).getD false,rfl,Walks.list (A:=X.A.in1) (I.ok.hd hc) _ p (yh hlt) its.toArray,
    ⟨⟨_,zy _ rfl,rfl,rfl⟩,pl.isList.push _⟩,fun i v s' Q' E' hP hQ=>?_,fun h' tk hk=>?_⟩
   ·obtain ⟨b,e,rfl⟩:=bool_at r' (i:=i) (v:=v) (by simpa using hP)
    simp only [e,uh] at hQ
    exact uv hQ
   ·have e:((vw its.toArray.size).any fun i=>(bs[i]?).getD false)=bs.any id:=by
     rw [zn,← r'.length,z7]; exact range_any' bs
    rw [e]
    exact ⟨.bl _,H,I.kept (kept_it hk),rfl,q _ H [] (Same.refl H) ⟨rfl,rfl⟩ cw.nil⟩
  ·injection h
 | _=>injection h
set_option tactic.hygienic true in
theorem bi_all (hc : X.calm = true) {ds : List D} {z : D} (h : biD .all ds = .ok z) : BiR X cl (.builtin "all") ds z := by
 intro pins s σ H xs us Q I r hh_
 obtain ⟨fp,rl,q⟩:=hh_
 obtain ⟨d,rfl⟩:=fH h
 cases d with
 | lst l =>
  simp only [biD_1,biD_2,biD_3,biD_4,biD_5,biD_6,gZ,gY,jK,g0,fP,iM,iL,iK,iJ,iI,iH,iG,iF] at h
  split at h
  ·rename_i bs hb
   (injection h with h; subst h)
   obtain ⟨x,f,ex,rx⟩:=rep1 rl
   obtain ⟨p,vs,g,e,hs,hl⟩:=bz (K:=X.K) rx
   have e1:=bools_rep hb hl
   subst ex; subst e; subst e1
   obtain ⟨u,rfl,rx'⟩:=g9 r
   subst rx'
   obtain ⟨its,r',pl,hz⟩:=I.list hs
   have hlt:p < s.heap.objs.size:=by obtain ⟨_,e,_⟩:=pl.isList; exact zt e
   refine call_all_walk (p0 pl.isList ?_)
   refine ⟨s.heap.objs.size,[s.heap.objs.size,p],[s.heap.objs.size],its.toArray.size,_,_,fun i=>(bs[i]?).getD true,rfl,Walks.list (A:=X.A.in1) (I.ok.hd hc) _ p (yh hlt) its.toArray,
    ⟨⟨_,zy _ rfl,rfl,rfl⟩,pl.isList.push _⟩,fun i v s' Q' E' hP hQ=>?_,fun h' tk hk=>?_⟩
   ·obtain ⟨b,e,rfl⟩:=bool_at r' (i:=i) (v:=v) (by simpa using hP)
    simp only [e,uh] at hQ
    exact uv hQ
   ·have e:((vw its.toArray.size).all fun i=>(bs[i]?).getD true)=bs.all id:=by
     rw [zn,← r'.length,z7]; exact range_all' bs
    rw [e]
    exact ⟨.bl _,H,I.kept (kept_it hk),rfl,q _ H [] (Same.refl H) ⟨rfl,rfl⟩ cw.nil⟩
  ·injection h
 | _=>injection h
theorem intV_of {its:List Value}:∀ {ns:List Int},pf its ns→Vals (ns.map V.int) its:=fun h=>by
 induction h with
 | nil=>exact .nil
 | cons n t _ ih=>exact .cons ⟨t,rfl⟩ ih
theorem repL_ints {H:Hp}:∀ ns:List Int,RepL cl H (ns.map D.int) (ns.map V.int) []:=by
 intro x_0
 induction x_0 with
 | nil =>
  unfold RepL; exact ⟨rfl,rfl⟩
 | cons n r ih_ =>
  rw [zc,zc]
  unfold RepL
  exact ⟨_,_,[],[],rfl,rfl,⟨rfl,rfl⟩,ih_⟩
theorem sortI_of {ns ms:List Int} (hp:ms.Perm ns) (h:ms.Pairwise (· ≤ ·)):ms=sortI ns:=by
 have h2:(sortI ns).Pairwise (· ≤ ·):=by
  have:=List.pairwise_mergeSort (le:=fun a b:Int=>decide (a≤b)) (fun a b c h1 h2=>by simp at h1 h2 ⊢; exact sq ‹_› ‹_›) (fun a b=>by simp; (clear hp h; omega)) ns
  exact this.imp fun h=>by simpa using h
 exact PySem.W.ksm_same (hp.trans (List.mergeSort_perm _ _).symm) h h2
theorem new_ints {pins:List (Addr × Obj)} {σ:L2.St} {H:Hp} {s s':Shared} {ns:List Int} {out:List Value} {D':Addr} {n:Nat} {Q:VK} (I:Inv X pins σ H s) (hD:s.heap.objs.size≤D') (hk:∀ b o,s.heap.get? b=some o→s'.heap.get? b=some o) (hs:s'={ s with heap:=s'.heap,toks:=s'.toks })
  (he : s'.heap.get? D' = some { cls := .type "list", data := .seq out.toArray n }) (hi : pf out ns) (hz : ns.length ≤ y4)
  (q:∀ v H' fp',Same H H'→Rep cl H' (.lst (ns.map D.int)) v fp'→cw H H' fp'→Q v H'):EP X pins σ Q (.ref D') s':=by
 have hn:H D'=none:=I.hok.fresh hD
 rw [hs]
 refine ⟨.ref D',upd H D' (.lst (ns.map V.int)),I.laid hk hD ⟨by simpa using hz,out,n,intV_of hi,he⟩,rfl,q _ _ [D'] (Same.new hn) ?_ (cw.one hn (fI (o:=.lst (ns.map V.int)) (by intro _ _ z; injection z)))⟩
 unfold Rep
 exact ⟨D',_,[],rfl,rfl,repL_ints ns,.inl ai⟩
set_option tactic.hygienic true in
theorem bi_sorted (hc : X.calm = true) {ds : List D} {z : D} (h : biD .sorted ds = .ok z) : BiR X cl (.builtin "sorted") ds z := by
 intro pins s σ H xs us Q I r hh_
 obtain ⟨fp,rl,q⟩:=hh_
 have hline:(64:Nat)≤y4:=by decide
 obtain ⟨d,rfl⟩:=fH h
 cases d with
 | lst l =>
  simp only [biD_1,biD_2,biD_3,biD_4,biD_5,biD_6,gZ,gY,jK,g0,fP,iM,iL,iK,iJ,iI,iH,iG,iF,sortD] at h
  split at h
  ·rename_i m hm
   split at hm
   ·rename_i ns hns
    split at hm
    ·rename_i h64
     (injection hm with hm; subst hm)
     (injection h with h; subst h)
     obtain ⟨x,f,ex,rx⟩:=rep1 rl
     obtain ⟨p,vs,g,e,hs,hl⟩:=bz (K:=X.K) rx
     have e1:=ints_rep hns hl
     subst ex; subst e; subst e1
     obtain ⟨u,rfl,rx'⟩:=g9 r
     subst rx'
     obtain ⟨its,r',pl,hz⟩:=I.list hs
     have hi:pf its ns:=io r'
     have hlen:its.length=ns.length:=hi.length
     refine sorted_ints pl.isList hi (by (clear hc I hline hns q rx rl hs hl r r' pl hz hi; omega)) fun out ns' a1 a2 a3=>?_
     obtain ⟨n,he⟩:=sortedAll_at s.heap its out
     have en:=sortI_of a2 a3
     subst en
     exact new_ints I (rf _) (fun b o e=>sortedAll_old e) rfl (out:=out.toList) (n:=n) (by simpa [seqObj] using he) a1 (by have:=a2.length_eq; (clear hc I hns q rx rl hs hl r r' pl hz hi hlen he a1 a2 a3; omega)) q
    ·injection hm
   ·injection hm
  ·injection h
 | dK l =>
  simp only [biD_1,biD_2,biD_3,biD_4,biD_5,biD_6,gZ,gY,jK,g0,fP,iM,iL,iK,iJ,iI,iH,iG,iF,sortD] at h
  split at h
  ·rename_i m hm
   split at hm
   ·rename_i ns hns
    split at hm
    ·rename_i h64
     (injection hm with hm; subst hm)
     (injection h with h; subst h)
     obtain ⟨x,f,ex,rx⟩:=rep1 rl
     obtain ⟨p,f',kvs,e,ef,ha,hks,rm⟩:=rx
     subst ex; subst e
     obtain ⟨u,rfl,rx'⟩:=g9 r
     subst rx'
     obtain ⟨hz,hd,ws,rel,dd⟩:=hJ I.hok ha
     obtain ⟨ep,hat⟩:=dd.dictAt
     have hh:=I.ok.hd hc
     have kws:ws.map (·.1)=ns.map zu:=by
      rw [← rel.keys,← hks]
      clear q rl hks rm
      induction l generalizing ns with
      | nil=>(injection hns with hns; subst hns); rfl
      | cons kv l ih =>
       obtain ⟨k,v⟩:=kv
       rw [zc] at hns ⊢
       cases k with
       | inr _=>injection hns
       | inl i =>
        have hns:(jr (l.map fun kv=>keyD kv.1)).map (i :: ·)=some ns:=hns
        cases hm:jr (l.map fun kv=>keyD kv.1) with
        | none=>rw [hm] at hns; injection hns
        | some m =>
         rw [hm] at hns
         (injection hns with hns; subst hns)
         rw [zc,ih (ns:=m) hm (by have:=h64; simp at this; exact xn ‹_›)]
     have hwl:ws.length=ns.length:=by have:=congrArg vg kws; simpa using this
     refine Calls.call_function_entry kind_sorted plain_sorted entry_sorted (args_sorted1 _) ?_
     unfold Builtin.«sorted»
     refine z6 (m := checkCount "sorted" 1 1 _) (zr ?_)
     refine z6 (PySem.W.kdu_collect (A:=X.A.in1) (PySem.W.kdl_dict (knd:=bf X.prog X.w) (kvs:=ws) (ep:=ep) hd) hh hat (by (clear hc I hns q ef ha hks rm rl r hz hd rel dd hat hh kws; omega)) fun h' tk acc hk hacc=>?_)
     have hl:acc.toList.length=ns.length:=by rw [qh,hacc.1,hwl]
     have hI:pf acc.toList ns:=by
      have key:∀ (as:List Value) (ms:List Int) (o:Nat),as.length=ms.length→(∀ (j:Nat) (v:Value),as[j]?=some v→∃ (i:Int) (t:Tok),ms[j]?=some i∧v=nc i t)→pf as ms:=by
       intro as
       induction as with
       | nil=>intro ms o hl _; cases ms with | nil=>exact .nil | cons _ _=>simp at hl
       | cons v as ih =>
        intro ms o hl hv
        cases ms with
        | nil=>simp at hl
        | cons i ms =>
         obtain ⟨i',t,h1,h2⟩:=hv 0 v rfl
         (injection h1 with h1; subst h1)
         subst h2
         exact .cons i t (ih ms o (by simpa using hl) fun j v h=>hv (j+1) v (by simpa using h))
      refine key acc.toList ns 0 hl fun j v hv=>?_
      obtain ⟨k,x,hx,hkey⟩:=hacc.2 j v (by rw [← Array.getElem?_toList]; exact hv)
      have hkj:(ws.map (·.1))[j]?=some k:=by rw [yn,hx]; rfl
      rw [kws,yn] at hkj
      cases hnj:ns[j]? with
      | none=>rw [hnj] at hkj; injection hkj
      | some i =>
       rw [hnj] at hkj
       (injection hkj with hkj; subst hkj)
       rcases ba (show keyIs (zu i) v=true from hkey) with ⟨i',t,e1,e2⟩ | ⟨_,_,e1,_⟩
       ·(injection e1 with e1; subst e1); exact ⟨i,t,rfl,e2⟩
       ·injection e1
     refine z6 (wpAny_newList ?_ (by (clear hc I hns q ef ha hks rm rl r hz hd rel dd hat hh kws hwl hk hacc hI; omega)))
     have hoL : (h'.push (seqObj "list" acc.toList.toArray 0)).get? h'.objs.size = some (seqObj "list" acc.toList.toArray 0) := zy _ rfl
     show wpAny _ _ _ _ _ { s with heap := h'.push (seqObj "list" acc.toList.toArray 0), toks := tk }
     refine z6 (pz (tq slot_list_sort ⟨_,hoL,rfl⟩ entry_list_sort (list_sort_tree hoL hI (by (clear hc I hline hns q ef ha hks rm rl r hz hd rel dd hat hh kws hwl hk hacc hI hoL; omega)) fun out ns' a1 a2 a3=>⟨_,rfl, ?_⟩) (args_list_sort _)))
     refine zr ⟨_,rfl, ?_⟩
     have en:=sortI_of a2 a3
     subst en
     obtain ⟨n,he⟩:=sortedHeap_at (n:=0) (vs:=acc.toList) (out:=out) hoL
     exact new_ints (s' := { s with heap := sortedHeap (h'.push (seqObj "list" acc.toList.toArray 0)) h'.objs.size acc.toList out, toks := tk }) (s := { s with heap := h', toks := tk }) (I.kept hk) (zf _) (fun b o h1 => by
      have hlt:b < h'.objs.size:=zt h1
      show (sortedHeap _ _ _ _).get? b=_
      rw [sortedHeap_old (yh hlt) (by rw [size_push']; exact sy hlt)]
      exact zb _ h1) rfl (out:=out.toList) (n:=n) (by simpa [seqObj] using he) a1 (by have:=a2.length_eq; (clear hc I hns q ef ha hks rm rl r hz hd rel dd hat hh kws hwl hk hacc hl hI hoL a1 a2 a3 he; omega)) q
    ·injection hm
   ·injection hm
  ·injection h
 | _=>injection h
end
end Vi
namespace Vi
open PySem PySem.Spec PyProof.Rows L2
section
variable {X:Cx} {cl:Nat→Addr} {M:Tab} {a b c e o:Expr} {es rest:List Expr} {pos p p2 apos cpos:Pos} {a' b' c' e' o':E} {es':List E}
theorem g_biF {bk : Bi} {id : String} {x : Str} (hB : ∀ ds z, biD bk ds = .ok z → BiR X cl (.builtin id) ds z) (hg : Gl X x) (hm : X.mg x = none) (hv : yr x = some (.builtin id)) (hn : x ≠ "__name__") (hdb : (x == ("__debug__" : Str)) = false)
  (he:zh (e::es) X.env=(false,eval e X.env)::zh es X.env) (hpl:(backTo pos (zh es X.env)).any (·.1)=false) (ha:GA X cl M (e::es) es'):GE X cl M (.Call (.Name x p) (e::es) [] pos) (.bi bk es'):=fun ρ d k h=>by
 rw [rE_bi] at h
 obtain ⟨⟨xs,ks⟩,g2,h⟩:=R.bind_ok h
 obtain ⟨r,g3,h⟩:=R.bind_ok h
 obtain ⟨rfl,rfl⟩:=okp h
 exact aT (pe_callB (hB xs r g3) hg hm hv (ha ρ xs ks g2) hn hdb he hpl) fun σ H Q hh_=>(by obtain ⟨H0,F,S,q⟩:=hh_; exact (⟨H0,F,S,fun vs H1 fp s1 r1 _=>⟨fp,r1,fun v H' fp' s2 r2 fr=>q v H' fp' (s1.trans s2) r2 (cw.kd s1 fr)⟩⟩))
theorem g_biT {bk : Bi} {id : String} {x : Str} (hB : ∀ ds z, biD bk ds = .ok z → BiR X cl (.type id) ds z) (hg : Gl X x) (hm : X.mg x = none) (hv : yr x = some (.type id)) (hn : x ≠ "__name__") (hdb : (x == ("__debug__" : Str)) = false)
  (he:zh (e::es) X.env=(false,eval e X.env)::zh es X.env) (hpl:(backTo pos (zh es X.env)).any (·.1)=false) (ha:GA X cl M (e::es) es'):GE X cl M (.Call (.Name x p) (e::es) [] pos) (.bi bk es'):=fun ρ d k h=>by
 rw [rE_bi] at h
 obtain ⟨⟨xs,ks⟩,g2,h⟩:=R.bind_ok h
 obtain ⟨r,g3,h⟩:=R.bind_ok h
 obtain ⟨rfl,rfl⟩:=okp h
 exact aT (pe_callTy (hB xs r g3) hg hm hv (ha ρ xs ks g2) hn hdb he hpl) fun σ H Q hh_=>(by obtain ⟨H0,F,S,q⟩:=hh_; exact (⟨H0,F,S,fun vs H1 fp s1 r1 _=>⟨fp,r1,fun v H' fp' s2 r2 fr=>q v H' fp' (s1.trans s2) r2 (cw.kd s1 fr)⟩⟩))
noncomputable def tyOfD:D→Option String
 | .non => some "NoneType"
 | .bl _ => some "bool"
 | .int _ => some "int"
 | .str _ => some "str"
 | .tup _ => some "tuple"
 | .lst _ => some "list"
 | .dK _=>none
 | .dT _=>none
 | .obj _ _=>none
theorem tyOf_rep {K:ze} {H:Hp} {d:D} {x:V} {f:List Addr} {T:String} (r:Rep cl H d x f) (h:tyOfD d=some T):TyOf K H x (.type T):=by
 cases d with
 | non=>(injection h with h; subst h); rw [r.1]; exact .non
 | bl b=>(injection h with h; subst h); rw [r.1]; exact .bl b
 | int i=>(injection h with h; subst h); rw [r.1]; exact .int i
 | str i=>(injection h with h; subst h); rw [r.1]; exact .str i
 | tup l=>(injection h with h; subst h); unfold Rep at r; obtain ⟨a,vs,e,ha,_⟩:=r; rw [e]; exact .tup ha
 | lst l =>
  (injection h with h; subst h); unfold Rep at r; obtain ⟨a,vs,f',e,_,_,ha⟩:=r; rw [e]
  rcases ha with ha | ⟨ob,ha⟩
  ·exact .lst ha
  ·exact .frz ha
 | dK l=>injection h
 | dT l=>injection h
 | obj _ _=>injection h
theorem g_isi {bk:Bi} {T:String} {x y:Str} {q1:Pos} (hk:∀ d z,biD bk [d]=.ok z→∃ t T',z=.bl t∧tyOfD d=some T'∧ni X.K (.type T') (.type T)=some t)
  (hg : Gl X x) (hm : X.mg x = none) (hv : yr x = some (.builtin "isinstance")) (hn : x ≠ "__name__") (hdb : (x == ("__debug__" : Str)) = false)
  (hg2 : Gl X y) (hm2 : X.mg y = none) (hv2 : yr y = some (.type T)) (hn2 : y ≠ "__name__") (hdb2 : (y == ("__debug__" : Str)) = false)
  (he:zh [a,.Name y q1] X.env=(false,eval a X.env)::zh [.Name y q1] X.env) (he2:zh [.Name y q1] X.env=(false,eval (.Name y q1) X.env)::zh [] X.env) (hpl:(backTo pos (zh [.Name y q1] X.env)).any (·.1)=false)
  (ha:GE X cl M a a'):GE X cl M (.Call (.Name x p) [a,.Name y q1] [] pos) (.bi bk [a']):=fun ρ d k h=>by
 rw [rE_bi] at h
 obtain ⟨⟨xs,ks⟩,g2,h⟩:=R.bind_ok h
 obtain ⟨r,g3,h⟩:=R.bind_ok h
 obtain ⟨rfl,rfl⟩:=okp h
 rw [dS] at g2
 obtain ⟨⟨w,kw⟩,g4,g2⟩:=R.bind_ok g2
 simp only [eV,dS,R.ok_bind,R.pure_eq,R.ok.injEq,u3] at g2
 obtain ⟨rfl,_⟩:=g2
 obtain ⟨t,T',ez,eT,ek⟩:=hk w r g3
 subst ez
 have hc : CallR X (.builtin "isinstance") (fun xs H Q => ∃ x f, xs = [x, .ty T] ∧ Rep cl H w x f ∧ Q (.bl t) H) := by
  intro pins s σ H xs us Q I r hh_
  obtain ⟨x,f,e,rx,q⟩:=hh_
  subst e
  obtain ⟨u,v,rfl,ru,rv⟩:=Vals.two r
  subst rv
  exact isinst_ok I ru (tyOf_rep rx eT) ek fun tk=>⟨.bl t,H,I.tok tk,rfl,q⟩
 refine aT (pe_callB hc hg hm hv (bc (ha ρ w kw g4) (bc (pe_bltn (v:=.ty T) hg2 hm2 hv2 rfl hn2 hdb2) bT he2) he) hn hdb he hpl) fun σ H Q hh_=>?_
 obtain ⟨H0,F,S,q⟩:=hh_
 refine ⟨H0,F,S,fun v H1 fp s1 r1 _=>⟨v,fp,rfl,r1, ?_⟩⟩
 exact q _ H1 [] s1 ⟨rfl,rfl⟩ (by rw [gO (z:=.bl t) rfl]; exact KOk.nil0)
theorem isi_int (K : ze) : ∀ d z, biD .isInt [d] = .ok z → ∃ t T', z = .bl t ∧ tyOfD d = some T' ∧ ni K (.type T') (.type "int") = some t := fun d z h => by
 cases d with
 | int i=>(injection h with h; subst h); exact ⟨true,_,rfl,rfl,rfl⟩
 | bl i=>(injection h with h; subst h); exact ⟨true,_,rfl,rfl,rfl⟩
 | str i=>(injection h with h; subst h); exact ⟨false,_,rfl,rfl,rfl⟩
 | _=>injection h
theorem isi_list (K : ze) : ∀ d z, biD .isList [d] = .ok z → ∃ t T', z = .bl t ∧ tyOfD d = some T' ∧ ni K (.type T') (.type "list") = some t := fun d z h => by
 cases d with
 | lst i=>(injection h with h; subst h); exact ⟨true,_,rfl,rfl,rfl⟩
 | _=>injection h
noncomputable def GO (X:Cx) (cl:Nat→Addr) (M:Tab) (e:Option Expr) (E':E):Prop:=∀ ρ d k i,runE M E' ρ=.ok (d,k)→optI E' d=some i→PO X e (fun σ H Q=>∃ H0 F,SOK cl H0 ρ F σ H∧∀ H',Same H H'→Q i H')
theorem go_none:GO X cl M none .nil:=fun ρ d k i h hi=>by
 simp only [rE_nil,R.ok.injEq,u3] at h; obtain ⟨rfl,rfl⟩:=h
 (injection hi with hi; subst hi)
 exact fun pins s σ H Q I hh_=>(by obtain ⟨H0,F,S,q⟩:=hh_; exact (po_none pins s σ H Q I (q H (Same.refl H))))
theorem cF (h:GE X cl M e e') (hn:isNil e'=false):GO X cl M (some e) e':=fun ρ d k i h1 h2=>by
 have key:∃ j,d=.int j∧i=some j:=by
  have h2:(match isNil e' with | true=>some none | false=>intO d)=some i:=h2
  rw [hn] at h2
  cases d with
  | int j=>injection h2 with h2; exact ⟨j,rfl,h2.symm⟩
  | _=>injection h2
 obtain ⟨j,rfl,rfl⟩:=key
 exact fun pins s σ H Q I hh_=>(by obtain ⟨H0,F,S,q⟩:=hh_; exact (po_some (h ρ _ k h1) pins s σ H Q I ⟨H0,F,S,fun v H1 fp s1 r1 _=>⟨j,r1.1,q H1 s1⟩⟩))
theorem cutAt_eq (n:Nat) (d:Nat) (i:Option Int):cutAt n d i=HT.sIx n d i:=by
 cases i with
 | none=>rfl
 | some i=>rfl
theorem RepL.dropN {H:Hp}:∀ (n:Nat) {l:List D} {vs:List V},RepL cl H l vs []→RepL cl H (l.drop n) (vs.drop n) []:=by
 intro x_0
 induction x_0 with
 | zero =>
  intro l vs h
  exact h
 | succ n ih_ =>
  intro x_1
  cases x_1 with
  | nil =>
   intro vs h
   obtain ⟨e,_⟩:=h; subst e; exact ⟨rfl,rfl⟩
  | cons d l =>
   intro vs h
   obtain ⟨v,vr,f,g,e,ef,r1,r2⟩:=h
   subst e
   have:f=[]∧g=[]:=by simpa using ef.symm
   rw [this.2] at r2
   exact ih_ r2
theorem RepL.takeN {H:Hp}:∀ (n:Nat) {l:List D} {vs:List V},RepL cl H l vs []→RepL cl H (l.take n) (vs.take n) []:=by
 intro x_0
 induction x_0 with
 | zero =>
  intro l vs h
  rw [pb,pb]; exact ⟨rfl,rfl⟩
 | succ n ih_ =>
  intro x_1
  cases x_1 with
  | nil =>
   intro vs h
   obtain ⟨e,_⟩:=h; subst e; exact ⟨rfl,rfl⟩
  | cons d l =>
   intro vs h
   obtain ⟨v,vr,f,g,e,ef,r1,r2⟩:=h
   subst e
   have:f=[]∧g=[]:=by simpa using ef.symm
   rw [this.2] at r2
   rw [this.1] at r1
   rw [qd,qd]
   unfold RepL
   exact ⟨v,_,[],[],rfl,rfl,r1,ih_ r2⟩
theorem g_sl {lo hi:Option Expr} {l' h':E} (ha:GE X cl M a a') (hl:GO X cl M lo l') (hh:GO X cl M hi h'):GE X cl M (.Subscript a (.Slice lo hi none p2) pos) (.sl a' l' h'):=fun ρ d k h=>by
 rw [rE_sl] at h
 obtain ⟨⟨x,kx⟩,g1,h⟩:=R.bind_ok h
 obtain ⟨⟨y,ky⟩,g2,h⟩:=R.bind_ok h
 obtain ⟨⟨z,kz⟩,g3,h⟩:=R.bind_ok h
 cases x with
 | lst l =>
  cases e1:optI l' y with
  | none=>simp only [e1] at h; injection h
  | some lo' =>
  cases e2:optI h' z with
  | none=>simp only [e1,e2] at h; injection h
  | some hi' =>
  simp only [e1,e2,slD_1] at h
  split at h
  ·rename_i him
   simp only [R.ok.injEq,u3] at h; obtain ⟨rfl,rfl⟩:=h
   refine aT (pe_slice sl_list (ha ρ _ kx g1) (hl ρ y ky lo' g2 e1) (hh ρ z kz hi' g3 e2)) fun σ H Q hh_=>?_
   obtain ⟨H0,F,S,q⟩:=hh_
   refine ⟨H0,F,S,fun v H1 fp s1 r1 _=>⟨H0,F,S.step s1,fun H2 s2=>⟨H0,F,(S.step s1).step s2,fun H3 s3=>?_⟩⟩⟩
   have r3:=(r1.same s2).same s3
   obtain ⟨p,vs,g,e,hs,hl'⟩:=bz (K:=X.K) r3
   refine ⟨p,vs,e,hs,fun q1 hq=>?_⟩
   have eg:=hl'.imm him
   subst eg
   have sn:=Same.new (o:=HO.lst (cutV vs lo' hi')) hq
   have rc:RepL cl H3 (cutD l lo' hi') (cutV vs lo' hi') []:=by
    unfold cutD cutV
    rw [cutAt_eq,cutAt_eq,← hl'.len]
    exact (hl'.dropN _).takeN _
   refine q (.ref q1) _ [q1] (((s1.trans s2).trans s3).trans sn) ?_ ((cw.one hq (fI (o:=.lst (cutV vs lo' hi')) (by intro _ _ z; injection z))).k ((s1.trans s2).trans s3))
   unfold Rep
   exact ⟨q1,_,[],rfl,rfl,rc.same sn,.inl ai⟩
  ·injection h
 | _=>injection h
end
end Vi
namespace L2
open PySem PySem.Spec PyProof.Rows
section
variable {X:Cx} {tg:Expr}
section
variable {prog:yp} {w:World} {A:Around} {E:Value→Shared→Prop} {s:Shared}
theorem fQ {sl:Addr} {vk:Value} {n:Nat} {Q:Int × Int × Nat→Shared→Prop} (hs:s.heap.IsSliceOf sl .none .none vk) (pk:IsPart vk (some (-1)))
  (h:Q ((n:Int) - 1,-1,n) s):wpAny (model prog w) A (xa.Slice.sliceApplied (.ref sl) (pure (n:Int))) Q E s:=by
 obtain ⟨os,hos,hcs,hds⟩:=id hs
 unfold xa.Slice.sliceApplied xa.Slice.sliceFields
 refine z6 (z6 (uw hos hds (x:=.none) rfl (z6 (uw hos hds (x:=.none) rfl (z6 (uw hos hds (x:=vk) rfl (zr ?_)))))))
 refine z6 (HT.slicePart_ pk ?_)
 show wpAny _ _ (if ((-1:Int) == 0)=true then _ else _) _ _ s
 rw [if_neg (by decide)]
 refine z6 (HT.slicePart_ .none (z6 (HT.slicePart_ .none (z6 (zr ?_)))))
 show wpAny _ _ (match q5 none none (-1) (n:Int) with | (lo,hi)=>pure (lo,(-1:Int),ur lo hi (-1))) _ _ s
 have e1:q5 none none (-1) (n:Int)=((n:Int) - 1,-1):=by
  unfold q5
  simp
 have e2:ur ((n:Int) - 1) (-1) (-1)=n:=by
  unfold ur
  simp only [show ¬ ((-1:Int) > 0) by decide,if_false,show (- -1:Int)=1 by decide,Int.ediv_one]
  split <;> (clear hs pk h hos hcs hds e1; omega)
 rw [e1]
 show wpAny _ _ (pure ((n:Int) - 1,(-1:Int),ur ((n:Int) - 1) (-1) (-1))) _ _ s
 rw [e2]
 exact zr h
theorem pick_rev (xs:Array Value):((vw xs.size).filterMap fun (m:Nat)=>xs[((xs.size:Int) - 1+(m:Int) * (-1)).toNat]?).toArray=xs.toList.reverse.toArray:=by
 have e:(vw xs.size).filterMap (fun (m:Nat)=>xs[((xs.size:Int) - 1+(m:Int) * (-1)).toNat]?)=((vw xs.size).map fun k=>xs.size - 1 - k).filterMap (xs[·]?):=by
  rw [List.filterMap_map]
  congr 1
  funext m
  show _=xs[xs.size - 1 - m]?
  rw [Int.mul_neg,Int.mul_one,← Int.sub_eq_add_neg,Int.sub_sub]
  show xs[((xs.size:Int) - ((1+m:Nat):Int)).toNat]?=_
  rw [Int.toNat_sub,Nat.sub_sub]
 rw [e,PySem.W.krv_range,List.filterMap_reverse,PySem.W.krv_all]
theorem fz {t sl:Addr} {items:Array Value} {vk:Value} {Q:Value→Shared→Prop} (ht:IsTup s.heap t items) (hs:s.heap.IsSliceOf sl .none .none vk) (pk:IsPart vk (some (-1)))
  (h : Q (.ref s.heap.objs.size) { s with heap := s.heap.push { cls := .type "tuple", data := .seq items.toList.reverse.toArray } })
  (hsz:items.size≤y4):wpAny (model prog w) A (getItem (.ref t) (.ref sl)) Q E s:=by
 have htake:sizeOk (.seq items.toList.reverse.toArray):=by
  show items.toList.reverse.toArray.size≤y4
  rw [zn,xl,qh]
  assumption
 obtain ⟨os,hos,hcs,hds⟩:=id hs
 have hTs : s.TypeIs (.ref sl) "slice" := ⟨os, hos, hcs⟩
 unfold getItem
 try with_reducible refine pz ?_
 first | refine z6 (zr ?_) | skip
 refine z6 (wpAny_sequenceKey ht.typeIs (by decide) ?_)
 refine z6 (qy (name := oz "__getitem__") ht.typeIs tf
  (tq tf ht.typeIs PyProof.Rows.entry_tuple_getitem ?_ (PyProof.Rows.args_tuple_getitem _ _)))
 show wpAny _ _ (xa.Tuple.tupleItemsOf (.ref t) >>= _) _ _ s
 refine z6 (tupleItemsOf_ ht ?_)
 refine z6 (oy hTs ?_)
 rw [if_pos (by decide)]
 refine z6 (fQ (n:=items.size) hs pk ?_)
 show wpAny _ _ (if (((items.size:Int) - 1) == 0 && (-1:Int) == 1 && items.size == items.size)=true then _ else _) _ _ s
 rw [if_neg (by rw [show ((-1:Int) == 1)=false by decide]; simp),pick_rev]
 first
  | exact z6 (m:=va _) (wd (zr ⟨_,rfl,zr h⟩) htake)
  | exact z6 (m:=va _) (wd (z6 (zr (zr ⟨_,rfl,zr h⟩))) htake)
  | exact z6 (z6 (m:=va _) (wd (zr (zr ⟨_,rfl,zr h⟩)) htake))
  | exact z6 (z6 (m:=va _) (wd (zr ⟨_,rfl,zr h⟩) htake))
end
noncomputable def tRev (K:ze) (te tk:TE):TE:=fun σ H Q=>te σ H fun x H1=>tPart tk σ H1 fun k H2=>k=some (-1)∧∃ a xs,x=.ref a∧((SqL K H2 a xs∧∀ p,H2 p=none→Q (.ref p) (upd H2 p (.lst xs.reverse)))∨(SqT K H2 a xs∧∀ p,H2 p=none→Q (.ref p) (upd H2 p (.tup xs.reverse))))
theorem pe_rev {e st:Expr} {te tk:TE} {p2 pos:Pos} (he:PE X e te) (hk:PE X st tk):PE X (.Subscript e (.Slice none none (some st) p2) pos) (tRev X.K te tk):=by
 intro pins s σ H Q I h
 refine Subscript_ (thn (he pins s σ H _ I h) fun v s1 hh_=>?_)
 obtain ⟨x,H1,I1,r1,q1⟩:=hh_
 refine wpAny_Slice (thn (po_none pins s1 σ H1 (fun l H2=>l=none∧H2=H1) I1 ⟨rfl,rfl⟩) fun vl s2 hh_=>?_)
 obtain ⟨l,H2,I2,pl,el,eH⟩:=hh_
 refine thn (po_none pins s2 σ H2 (fun l H3=>l=none∧H3=H1) I2 ⟨rfl,eH⟩) fun vu s3 hh_=>?_
 obtain ⟨u,H3,I3,pu,eu,eH3⟩:=hh_
 subst el eu eH3
 refine thn (po_some hk pins s3 σ H3 _ I3 q1) fun vk s4 hh_=>?_
 obtain ⟨k,H4,I4,pk,ek,a,xs,ex,hq⟩:=hh_
 subst ek ex
 subst r1
 have I5 : Inv X pins σ H4 { s4 with heap := s4.heap.push { cls := .type "slice", data := .fields #[vl, vu, vk] } } := I4.kept (t' := s4.toks) fun b ob q => zb _ q
 rcases hq with ⟨hq,q⟩ | ⟨hq,q⟩
 case inr =>
  obtain ⟨its,r,ht,hz⟩:=I5.tuple hq
  have hlen:=r.length
  show wpAny (model X.prog X.w) X.A (o0 e (.Slice none none (some st) p2) (.ref a) (.ref s4.heap.objs.size)) (EP X pins σ Q) X.xe { s4 with heap := s4.heap.push { cls := .type "slice", data := .fields #[vl, vu, vk] } }
  refine tail_any ht.typeIs tf.lookup ?_ (by with_unfolding_all rfl)
  cases pl
  cases pu
  refine fz ht (nu ..) pk ?_ (by rw [zn] <;> (clear he hk I h I2 I3 I1 eH I4 pk q1 hq q r I5 ht; omega))
  refine ⟨.ref _,_,I5.laid (t':=s4.toks) (o:=.tup xs.reverse) (fun b ob q=>zb _ q) (zf _) ?_,rfl,q _ (I5.hok.fresh (zf _))⟩
  exact ⟨by rw [xl]; exact hz,its.reverse,r.reverse,by rw [show its.reverse.toArray=its.toArray.toList.reverse.toArray by simp]; exact IsTup.new _ _⟩
 obtain ⟨its,r,ht,hz⟩:=I5.list hq
 have hlen:=r.length
 show wpAny (model X.prog X.w) X.A (o0 e (.Slice none none (some st) p2) (.ref a) (.ref s4.heap.objs.size)) (EP X pins σ Q) X.xe { s4 with heap := s4.heap.push { cls := .type "slice", data := .fields #[vl, vu, vk] } }
 refine tail_any ht.isList.typeIs slot_list_getitem.lookup ?_ (by with_unfolding_all rfl)
 refine wpAny_getItem_list_slice ht.isList (nu ..) pl pu pk (by decide) ?_ (by rw [zn] <;> (clear he hk I h I2 I3 pl pu I1 eH I4 pk q1 I5 hq q r ht; omega))
 rw [PySem.W.krv_pick]
 refine ⟨.ref _,_,I5.laid (t':=s4.toks) (o:=.lst xs.reverse) (fun b ob q=>zb _ q) (zf _) ?_,rfl,q _ (I5.hok.fresh (zf _))⟩
 exact ⟨by rw [xl]; exact hz,its.reverse,0,r.reverse,by rw [show its.reverse.toArray=its.toArray.toList.reverse.toArray by simp]; exact zy _ rfl⟩
end
end L2
namespace Vi
open PySem PySem.Spec PyProof.Rows L2
section
variable {X:Cx} {cl:Nat→Addr} {M:Tab} {a b c e o:Expr} {es rest:List Expr} {pos p p2 apos cpos:Pos} {a' b' c' e' o':E} {es':List E}
theorem g_rev {q1 q2:Pos} {j} (ha:GE X cl M a a'):GE X cl M (.Subscript a (.Slice none none (some (.UnaryOp .USub (.Constant (.int 1) j q1) q2)) p2) pos) (.rev a'):=fun ρ d k h=>by
 rw [ic] at h
 obtain ⟨⟨x,kx⟩,g1,h⟩:=R.bind_ok h
 cases x with
 | lst l =>
  simp only at h
  split at h
  ·rename_i him
   obtain ⟨rfl,rfl⟩:=okp h
   refine aT (pe_rev (ha ρ _ kx g1) (pe_un un_neg pe_int)) fun σ H Q hh_=>?_
   obtain ⟨H0,F,S,q⟩:=hh_
   refine ⟨H0,F,S,fun v H1 fp s1 r1 _=>⟨1,rfl,-1,rfl,rfl, ?_⟩⟩
   obtain ⟨p,vs,g,e,hs,hl'⟩:=bz (K:=X.K) r1
   refine ⟨p,vs,e,.inl ⟨hs,fun q1 hq=>?_⟩⟩
   have sn:=Same.new (o:=HO.lst vs.reverse) hq
   refine q (.ref q1) _ [q1] (s1.trans sn) ?_ ((cw.one hq (fI (o:=.lst vs.reverse) (by intro _ _ z; injection z))).k s1)
   unfold Rep
   exact ⟨q1,_,[],rfl,rfl,(hl'.reverse him).same sn,.inl ai⟩
  ·injection h
 | tup l =>
  simp only at h
  split at h
  ·rename_i him
   obtain ⟨rfl,rfl⟩:=okp h
   refine aT (pe_rev (ha ρ _ kx g1) (pe_un un_neg pe_int)) fun σ H Q hh_=>?_
   obtain ⟨H0,F,S,q⟩:=hh_
   refine ⟨H0,F,S,fun v H1 fp s1 r1 _=>⟨1,rfl,-1,rfl,rfl, ?_⟩⟩
   obtain ⟨p,vs,e,hs,hl'⟩:=cJ (K:=X.K) r1
   refine ⟨p,vs,e,.inr ⟨hs,fun q1 hq=>?_⟩⟩
   have sn:=Same.new (o:=HO.tup vs.reverse) hq
   refine q (.ref q1) _ [] (s1.trans sn) ?_ KOk.nil0
   unfold Rep
   exact ⟨q1,_,rfl,ai,(hl'.reverse him).same sn⟩
  ·injection h
 | _=>injection h
theorem bP {tg iter:Expr} (h:GE X cl M iter e'):GI X cl M tg iter .each [e']:=fun ρ xs k hr=>by
 rw [rI_1] at hr
 obtain ⟨⟨x,kx⟩,g1,hr⟩:=R.bind_ok hr
 simp only [eV,dS,R.ok_bind] at hr
 cases x with
 | lst l =>
  simp only [gl,jq,gk,jp,jo,R.pure_eq,R.ok.injEq,u3] at hr; obtain ⟨rfl,rfl⟩:=hr
  exact i_list (h ρ _ kx g1)
 | tup l =>
  simp only [gl,jq,gk,jp,jo,R.pure_eq,R.ok.injEq,u3] at hr; obtain ⟨rfl,rfl⟩:=hr
  exact i_tup (h ρ _ kx g1)
 | _=>injection hr
theorem run_args {ik:Itk} {it:List E} {ρ:Env} {xs:List D} {k:Kd} (h:runI M ik it ρ=.ok (xs,k)):∃ ds ks,cp M it ρ=.ok (ds,ks)∧cI ik ds=some xs∧(ik=.range→k=.sto []):=by
 cases it with
 | nil=>injection h
 | cons a r =>
  rw [rI_1] at h
  obtain ⟨⟨x,kx⟩,g1,h⟩:=R.bind_ok h
  obtain ⟨⟨ys,ky⟩,g2,h⟩:=R.bind_ok h
  simp only at h
  split at h
  ·injection h
  ·rename_i zs hz
   obtain ⟨rfl,rfl⟩:=okp h
   exact ⟨x::ys,combK kx ky,by rw [dS,g1]; simp [g2],hz,fun e=>by subst e; rfl⟩
theorem es_one {ρ:Env} {ds:List D} {ks:Kd} (h:cp M [a'] ρ=.ok (ds,ks)):∃ d,ds=[d]:=by
 rw [dS] at h
 obtain ⟨⟨x,kx⟩,g1,h⟩:=R.bind_ok h
 simp only [eV,dS,R.ok_bind,R.pure_eq,R.ok.injEq,u3] at h
 exact ⟨x,h.1.symm⟩
theorem gi_range1 {tg : Expr} (hg : Gl X "range") (hm : X.mg "range" = none) (hs : zh [a] X.env = [(false, eval a X.env)]) (ha : GA X cl M [a] [a']) : GI X cl M tg (.Call (.Name "range" p) [a] [] pos) .range [a'] := fun ρ xs k hr => by
 obtain ⟨ds,ks,h1,h2,h3⟩:=run_args hr
 rw [h3 rfl]
 have hp:=ha ρ ds ks h1
 obtain ⟨d,rfl⟩:=es_one h1
 cases d with
 | int n =>
  simp only [gl,jq,gk,jp,jo] at h2
  split at h2
  ·rename_i hb
   (injection h2 with h2; subst h2)
   exact i_range1 hg hm hp hb hs
  ·injection h2
 | _=>injection h2
theorem e8 {tgE iter elt:Expr} {ifs:List Expr} {sc:Scope} {tg:List Nat} {one:Bool} {g:TG} {ik:Itk} {it:List E} (hc:X.calm=true) (Sc:d5 X sc)
  (how:∀ (i:Nat) (x:Str),X.N[i]?=some x→sc.names.lookup x=some ya.local→i∈tg) (hs:∀ x,w5 iter X.env x=pure x) (hi:GI X cl M tgE iter ik it) (hg:∀ X',InC X sc X'→PG X' tgE g) (hB:dn cl tg one g)
  (ht:(ifs=[]∧c'=.bl true)∨∃ c,ifs=[c]∧∀ X',InC X sc X'→GT X' cl M c c') (he:∀ X',InC X sc X'→GE X' cl M elt e'):GE X cl M (.ListComp elt [⟨tgE,iter,ifs,0⟩] sc pos) (.comp e' tg one ik it c'):=fun ρ d k h=>by
 rw [jc] at h
 obtain ⟨⟨xs,kx⟩,g1,h⟩:=R.bind_ok h
 simp only at h
 split at h
 ·injection h
 ·rename_i hl
  obtain ⟨⟨ys,b⟩,g2,h⟩:=R.bind_ok h
  obtain ⟨rfl,rfl⟩:=okp h
  refine e_comp hc Sc how (hi ρ xs kx g1) hg hB (by exact t9.mp ‹_›) ?_ (fun X' hX ρ d k e=>he X' hX ρ d k e) g2 hs
  rcases ht with ⟨e1,e2⟩ | ⟨c,e1,ht⟩
  ·refine .inl ⟨e1,fun ρ t ht=>?_⟩
   subst e2
   simp only [tru1,fT,truD] at ht
   (injection ht with ht; subst ht); rfl
  ·refine .inr ⟨c,e1,fun X' hX ρ t h2=>?_⟩
   cases hr:runE M c' ρ with
   | ok q =>
    obtain ⟨x,kx⟩:=q
    rw [hr] at h2
    exact ht X' hX ρ x kx t hr h2
   | ex z=>rw [hr] at h2; injection h2
   | bad=>rw [hr] at h2; injection h2
end
end Vi
namespace Vi
open PySem PySem.Spec PyProof.Rows L2
section
variable {X:Cx} {cl:Nat→Addr} {M:Tab} {a b c e o:Expr} {es rest:List Expr} {pos p p2 apos cpos spos:Pos} {a' b' c' e' o':E} {es':List E} {st:Stmt} {sts sa sb:List Stmt} {s':S} {ss sa' sb':List S}
theorem af:GSs X cl M [] []:=fun ρ=>by
 show PSs X [] (tSd cl ρ (asgs []) (al M [] ρ))
 rw [rSs_0,asgs]; exact ss_nil
theorem aa (h1:GS X cl M st s') (h2:GSs X cl M sts ss):GSs X cl M (st::sts) (s'::ss):=fun ρ=>by
 show PSs X (st::sts) (tSd cl ρ (asgs (s'::ss)) (al M (s'::ss) ρ))
 rw [jb,asgs]
 exact ss_cons (h1 ρ) fun ρ' _=>h2 ρ'
theorem dZ:GSs X cl M sts [.raise]:=fun ρ=>by
 have e:al M [.raise] ρ=.bad:=by simp only [jb,Out.bind,rS_raise]
 show PSs X sts (tSd cl ρ _ (al M [.raise] ρ))
 rw [e]; exact ss_bad
theorem gs_set {i:Nat} {x:Str} {pos':Pos} (hN:X.N.Nodup) (hi:X.N[i]?=some x) (hx:Loc X.env.scope x) (hs:ug e (some (.Name x pos')) pos.line X.env=pure false) (hf:X.fn x=true∨X.env.scope.names.lookup x=some .local) (he:GE X cl M e e') :
  GS X cl M (.Assign [.Name x pos'] e pos) (.set i e'):=fun ρ=>by
 rw [rS_set]
 cases hr:runE M e' ρ with
 | ok q =>
  obtain ⟨d,k⟩:=q
  show PS X _ (tSd cl ρ _ (ofO (aN ρ i d k)))
  cases hs2:aN ρ i d k with
  | none=>exact bt
  | some ρ'=>exact s_set (ps_set hN hi hx (he ρ d k hr) hs hf) hs2
 | ex z=>exact s_ex
 | bad=>exact bt
theorem bw (he:GE X cl M e e'):GS X cl M (.Return (some e) pos) (.ret e'):=fun ρ=>by
 rw [rS_ret]
 cases hr:runE M e' ρ with
 | ok q=>obtain ⟨d,k⟩:=q; exact s_ret (he ρ d k hr)
 | ex z=>exact s_ex
 | bad=>exact bt
theorem cq (hc:GT X cl M c c') (ha:GSs X cl M sa sa') (hb:GSs X cl M sb sb'):GS X cl M (.If c sa sb pos) (.ifs c' sa' sb'):=fun ρ=>by
 rw [rS_ifs]
 cases hr:runE M c' ρ with
 | ok q =>
  obtain ⟨d,k⟩:=q
  simp only [ofR]
  cases ht:truD d with
  | ok t=>exact s_if (hc ρ d k t hr ht) (fun _=>ha ρ) (fun _=>hb ρ)
  | ex z=>exact s_ex
  | bad=>exact bt
 | ex z=>exact s_ex
 | bad=>exact bt
theorem eG {tgE iter:Expr} {tg:List Nat} {one:Bool} {g:TG} {ik:Itk} {it:List E} (hp:xt (model X.prog X.w) X.A X.env X.xe) (hc:X.calm=true) (hs:∀ x,w5 iter X.env x=pure x) (hi:GI X cl M tgE iter ik it) (hg:PG X tgE g) (hB:dn cl tg one g) (hb:GSs X cl M sa sa') :
  GS X cl M (.For tgE iter sa [] pos) (.for tg one ik it sa'):=fun ρ=>by
 rw [rS_for]
 cases hr:runI M ik it ρ with
 | ok q =>
  obtain ⟨xs,k⟩:=q
  simp only [ofR]
  split
  ·exact bt
  ·rename_i hn
   have hn:noBor k=true:=by simpa using hn
   exact s_for hp hc (hi ρ xs k hr) hn hg hB (fun ρ=>hb ρ) hs
 | ex z=>exact s_ex
 | bad=>exact bt
theorem gs_whl {n:Nat} (hp:xt (model X.prog X.w) X.A X.env X.xe) (hc:GT X cl M c c') (hb:GSs X cl M sa sa'):GS X cl M (.While c sa [] pos) (.whl n c' sa'):=fun ρ=>by
 rw [rS_whl]
 refine s_whl hp (fun ρ t h=>?_) fun ρ=>hb ρ
 cases hr:runE M c' ρ with
 | ok q =>
  obtain ⟨x,kx⟩:=q
  rw [hr] at h
  exact hc ρ x kx t hr h
 | ex z=>rw [hr] at h; injection h
 | bad=>rw [hr] at h; injection h
theorem gs_expr (hs:ug e none pos.line X.env=pure false) (he:GE X cl M e e'):GS X cl M (.Expr e pos) (.expr e'):=fun ρ=>by
 rw [rS_expr]
 cases hr:runE M e' ρ with
 | ok q=>obtain ⟨d,k⟩:=q; exact s_expr (he ρ d k hr) hs
 | ex z=>exact s_ex
 | bad=>exact bt
set_option tactic.hygienic true in
theorem cQ {i : Nat} (h : ∀ {te : TE}, PE X e te → PS X st (tDrop (tBM X.K "list" rAppend (tVar i) (tCons te tNil)))) (he : GE X cl M e e') : GS X cl M st (.app i e') := fun ρ => by
 rw [rS_app]
 cases hr:runE M e' ρ with
 | ok q =>
  obtain ⟨d,k⟩:=q
  simp only [ofR]
  split
  ·rename_i l js hl
   split
   ·rename_i hc
    exact s_app (h (he ρ d _ hr)) (dX hl) hc
   ·exact bt
  ·exact bt
 | ex z=>exact s_ex
 | bad=>exact bt
set_option tactic.hygienic true in
theorem iu {i : Nat} {x : Str} {k v : Expr} {k' v' : E} {np tp : Pos} (hu : X.A.units + 1 < cLine) (hN : X.N[i]? = some x) (hv : Vis X.env.scope x) (hd : (x == ("__debug__" : Str)) = false) (hcd : (x == ("__classdict__" : Str)) = false) (hs : ug v (some (.Subscript (.Name x np) k tp)) pos.line X.env = pure false)
  (hk:GE X cl M k k') (hvv:GE X cl M v v'):GS X cl M (.Assign [.Subscript (.Name x np) k tp] v pos) (.put i k' v'):=fun ρ=>by
 rw [rS_put]
 cases hr:runE M v' ρ with
 | ex z=>exact s_ex
 | bad=>exact bt
 | ok q =>
  obtain ⟨y,ky⟩:=q
  simp only [ofR]
  cases hr2:runE M k' ρ with
  | ex z=>exact s_ex
  | bad=>exact bt
  | ok q =>
   obtain ⟨w,kw⟩:=q
   simp only
   split
   ·rename_i d hl
    split
    ·rename_i him
     split
     ·rename_i d' hp
      refine cz (ps_dput hu (pe_var hN hv hd hcd) (hk ρ w kw hr2) (hvv ρ y ky hr) hs) fun D σ H hh_=>?_
      refine zz fun P_ k_=>?_
      obtain ⟨H0,F,S,q⟩:=hh_
      refine k_ ?_
      refine ⟨H0,F,S,fun vy H1 fy s1 ry _=>?_⟩
      obtain ⟨vd,hvd,rd⟩:=S.rep i d true hl
      refine ⟨vd,hvd,H0,F,S.step s1,fun vk H2 fk s2 rk _=>?_⟩
      have S2:=(S.step s1).step s2
      have ry2:=ry.same s2
      rw [ry.imm him] at ry2
      refine zz fun P_ k_=>?_
      obtain ⟨a,f',ob,ea,dp,hf',haf,nd,nt,rn,nfz⟩:=dput_rep ((rd.same s1).same s2) (S.own i d hl).1 (fun b hb=>((((S.step s1).step s2).own i d hl).2 b hb).2) rk ry2 hp
      refine k_ ?_
      subst ea
      obtain ⟨F',S'⟩:=S2.mut (H':=upd H2 a ob) (d':=d') (fp:=a::f') (is:=[]) hl hvd (by simp) (fun _ h=>nomatch h) rn nd
       (fun b hb=>.inl (by
        rcases y6.mp hb with z | z
        ·rw [z]; exact haf
        ·exact hf' b z))
       (fun b hb o u z=>by
        by_cases hba:b=a
        ·rw [hba,ai] at z; exact nfz o u (yy z)
        ·rw [ah hba] at z
         rcases y6.mp hb with w | w
         ·exact hba w
         ·exact ((S2.own i d hl).2 b (hf' b w)).2 o u z)
       (fun b hb _=>ah (fun z=>hb (by rw [z]; exact haf)))
       (fun b us z=>by
        have hba:b≠a:=fun w=>nt us (by rw [← w]; exact z)
        rw [ah hba]; exact z)
      exact ⟨a,_,rfl,dp,q σ _ F' S' fun _ _=>rfl⟩
     ·exact bt
    ·exact bt
   ·exact bt
end
end Vi
namespace Vi
open PySem PySem.Spec PyProof.Rows L2
theorem putF_new {x:Str} {y:V}:∀ {gs:List (Str × V)},gs.lookup x=none→putF x y gs=gs++[(x,y)]:=by
 intro x_0
 induction x_0 with
 | nil =>
  intro _
  exact rfl
 | cons p_0 r ih_ =>
  obtain ⟨g,v⟩:=p_0
  intro h
  rw [yf] at h
  cases hx:x == g with
  | true=>rw [hx] at h; injection h
  | false =>
   rw [hx] at h
   have hne:¬ g=x:=fun e=>by rw [e] at hx; simp at hx
   show (if g=x then _ else _)=_
   rw [if_neg hne,ih_ h]
   rfl
section
variable {X:Cx} {cl:Nat→Addr} {M:Tab} {a b c e o:Expr} {pos p p2:Pos} {e':E}
set_option tactic.hygienic true in
theorem jw {x self : Str} {np tp : Pos} (hN : X.N[0]? = some self) (hv : Vis X.env.scope self) (hd : (self == ("__debug__" : Str)) = false) (hcd : (self == ("__classdict__" : Str)) = false) (hc : ∀ c, Cls X.K (cl c) ∧ dC X.K (cl c) x)
  (hs:ug e (some (.Attribute (.Name self np) x tp)) pos.line X.env=pure false) (he:GE X cl M e e'):GS X cl M (.Assign [.Attribute (.Name self np) x tp] e pos) (.fset x e'):=fun ρ=>by
 rw [rS_fset]
 cases hr:runE M e' ρ with
 | ex z=>exact s_ex
 | bad=>exact bt
 | ok q =>
  obtain ⟨d,k⟩:=q
  simp only [ofR]
  split
  ·rename_i ci fs js hl
   have hl:=ownO_some hl
   split
   ·rename_i hcond
    obtain ⟨hlen,hlk,h0⟩:=hcond
    refine cz (ps_fld (pe_var hN hv hd hcd) (he ρ d _ hr) hs) fun D σ H hh_=>?_
    refine zz fun P_ k_=>?_
    obtain ⟨H0,F,S,q⟩:=hh_
    refine k_ ?_
    refine ⟨H0,F,S,fun y H1 g s1 r1 hh_=>?_⟩
    refine zz fun P_ k_=>?_
    obtain ⟨n1,o1,m1,z1⟩:=hh_
    obtain ⟨vd,hvd,rd⟩:=S.rep 0 _ _ hl
    have rd1:=rd.same s1
    obtain ⟨a,dx,f,gs,ea,eF,ha,hdx,hn,r⟩:=rd1
    refine k_ ?_
    subst ea
    have S1:=S.step s1
    have nodF:(a::dx::f).Nodup:=eF ▸ (S.own 0 _ hl).1
    have hgl:gs.lookup x=none:=ii hn (RepF.l.mp r) hlk
    have hglen:gs.length=fs.length:=by have:=congrArg vg hn; simpa using this.symm
    have offg:∀ b∈F 0,b∉g:=fun b hb hg=>by
     rcases m1 b hg with z | ⟨w,hw,z⟩
     ·exact S.dom hl b hb z
     ·obtain ⟨dl,el⟩:=o1 w hw
      exact S.dis 0 w _ dl true (fun q=>h0 (q ▸ hw)) hl el b hb z
    have aF:a∈F 0:=by rw [eF]; exact za
    have dF:dx∈F 0:=by rw [eF]; exact z8 _ za
    have hda:dx≠a:=fun z=>(y0.mp nodF).1 (by rw [z]; exact za)
    have naf:a∉f:=fun z=>(y0.mp nodF).1 (z8 _ z)
    have ndf:dx∉f:=(y0.mp (y0.mp nodF).2).1
    have nag:a∉g:=offg a aF
    have ndg:dx∉g:=offg dx dF
    have ne:∀ b∈f++g,b≠a:=fun b hb z=>by rw [z] at hb; exact (y2.mp hb).elim naf nag
    have nt:∀ us,H1 a≠some (.tup us):=fun us z=>by rw [ha] at z; (injection z with z; injection z)
    have kp:Keep (f++g) H1 (upd H1 a (.ins (cl ci) dx (gs++[(x,y)]))):=⟨fun b hb=>ah (ne b hb),fun b us z=>by
     have hba:b≠a:=fun w=>nt us (by rw [← w]; exact z)
     rw [ah hba]; exact z⟩
    have rn:Rep cl (upd H1 a (.ins (cl ci) dx (gs++[(x,y)]))) (.obj ci (fs++[(x,d)])) (.ref a) (a::dx::(f++g)):=by
     unfold Rep
     refine ⟨a,dx,f++g,gs++[(x,y)],rfl,rfl,ai,by rw [ah hda]; exact hdx,by rw [y3,y3,hn]; rfl,RepF.l.mpr ?_⟩
     rw [y3,y3]
     exact (RepL.snoc (RepF.l.mp r) r1).keep kp
    obtain ⟨F',S'⟩:=S.mut (H':=upd H1 a (.ins (cl ci) dx (gs++[(x,y)]))) (d':=.obj ci (fs++[(x,d)])) (fp:=a::dx::(f++g)) (is:=js) hl hvd h0 o1 rn
     (y0.mpr ⟨fun z=>by
       rcases y6.mp z with z | z
       ·exact hda z.symm
       ·exact ne a z rfl,y0.mpr ⟨fun z=>(y2.mp z).elim ndf ndg,x4.mpr ⟨(y0.mp (y0.mp nodF).2).2,n1,fun u hu w hw e=>by
        subst e; exact offg u (by rw [eF]; exact z8 _ (z8 _ hu)) hw⟩⟩⟩)
     (fun b hb=>by
      rcases y6.mp hb with z | z
      ·rw [z]; exact .inl aF
      ·rcases y6.mp z with z | z
       ·rw [z]; exact .inl dF
       ·rcases y2.mp z with z | z
        ·exact .inl (by rw [eF]; exact z8 _ (z8 _ z))
        ·exact .inr (m1 b z))
     (fun b hb ob u z=>by
      by_cases hba:b=a
      ·rw [hba,ai] at z; (injection z with z; injection z)
      ·rw [ah hba] at z
       rcases y6.mp hb with w | w
       ·exact hba w
       ·rcases y6.mp w with w | w
        ·rw [w,hdx] at z; (injection z with z; injection z)
        ·rcases y2.mp w with w | w
         ·have hbF:b∈F 0:=by rw [eF]; exact z8 _ (z8 _ w)
          exact (((S.own 0 _ hl).2 b hbF).2.same s1 (S.dom hl b hbF)) ob u z
         ·exact z1 b w ob u z)
     (fun b hb hdm=>by
      rw [ah (fun z=>hb (by rw [z]; exact aF))]
      cases qb:H b with
      | none=>exact absurd qb hdm
      | some ob=>exact s1 b ob qb)
     (fun b us z=>by
      have z1:=s1 b _ z
      have hba:b≠a:=fun w=>nt us (by rw [← w]; exact z1)
      rw [ah hba]; exact z1)
    refine ⟨.ref a,hvd,a,cl ci,dx,gs,rfl,ha,(hc ci).1,(hc ci).2,by (clear hN hv hd hcd hc hs he hr hlk h0 S q s1 r1 n1 o1 m1 z1 eF ha hdx hn r hvd rd S1 nodF hgl offg aF dF hda naf ndf nag ndg ne nt kp rn S'; omega), ?_⟩
    rw [putF_new hgl]
    exact q σ _ F' S' fun _ _=>rfl
   ·exact bt
  ·exact bt
end
section
variable {P:yp} {w:World} {K:ze} {mg:Str→Option Value} {base:Heap} {cl:Nat→Addr}
theorem start_sok2 {H:Hp} {ds:List D} {vs:List V} {fp:List Addr} {N:List Str} {n:Nat} (r:RepL cl H ds vs fp) (hn:N.length=n) (hl:ds.length≤n) :
  ∃ F,SOK cl H (ds.map (fun d=>some (d,false))++yt (n - ds.length) none) F (L2.dI N vs) H∧∀ i d,ds[i]?=some d→∀ a∈F i,a∈fp:=by
 have key:∀ i:Nat,∃ f:List Addr,∀ d,ds[i]?=some d→∃ v,vs[i]?=some v∧Rep cl H d v f∧∀ a∈f,a∈fp:=fun i=>by
  cases e:ds[i]? with
  | none=>exact ⟨[],fun d h=>nomatch h⟩
  | some d =>
   obtain ⟨v,f,h1,h2,h3⟩:=r.get e
   exact ⟨f,fun d' h=>by (injection h with h; subst h); exact ⟨v,h1,h2,h3⟩⟩
 refine ⟨fun i=>Classical.choose (key i), ?_,fun i d e=>(uq (key i) d e).choose_spec.2.2⟩
 have look:∀ {j:Nat} {d:D} {o:Bool},(ds.map (fun d=>some (d,false))++yt (n - ds.length) none)[j]?=some (some (d,o))→o=false∧ds[j]?=some d:=fun {j d o} h=>by
  by_cases hj:j < ds.length
  ·rw [w6 (by simpa using hj),yn] at h
   cases e:ds[j]? with
   | none=>rw [e] at h; injection h
   | some x=>rw [e] at h; cases h; exact ⟨rfl,rfl⟩
  ·rw [um (by simpa using hj),sd] at h
   split at h <;> (first | injection h; done | injection h with h; injection h; done)
 refine ⟨Same.refl _, ?_,fun j d o h=>?_,fun j d h=>?_,fun i j d e o _ h=>?_,fun j d h a ha=>?_⟩
 ·unfold L2.dI
  simp only [zl,z7,pi]
  rw [r.len,hn]
 ·obtain ⟨_,e⟩:=look h
  obtain ⟨v,h1,h2,_⟩:=uq (key j) d e
  refine ⟨v, ?_,h2⟩
  unfold L2.dI
  have hj:j < vs.length:=(yi.mp h1).1
  rw [w6 (by simpa using hj),yn,h1]
  rfl
 ·cases (look h).1
 ·cases (look h).1
 ·obtain ⟨_,e⟩:=look h
  obtain ⟨v,h1,h2,_⟩:=uq (key j) d e
  exact h2.dom a ha
theorem jM {ds:List D} {n i:Nat} {d:D} {o:Bool} (h:(ds.map (fun d=>some (d,false))++yt n none)[i]?=some (some (d,o))):o=false∧i < ds.length:=by
 by_cases hj:i < ds.length
 ·rw [w6 (by rw [z7]; exact hj),yn,z9 hj] at h
  injection h with h; injection h with h; injection h with _ h
  exact ⟨h.symm,hj⟩
 ·rw [um (by rw [z7]; exact t9.mp hj),sd] at h
  split at h
  ·injection h with h; injection h
  ·injection h
noncomputable def offN (H:Hp) (p dx:Addr):Hp:=fun b=>if b=p∨b=dx then none else H b
theorem off_eq {H:Hp} {p dx b:Addr} (h1:b≠p) (h2:b≠dx):offN H p dx b=H b:=if_neg fun z=>z.elim h1 h2
theorem off_same {H:Hp} {p dx:Addr}:Same (offN H p dx) H:=fun b o z=>by
 unfold offN at z
 split at z
 ·injection z
 ·exact z
theorem init_sok {H:Hp} {p dx:Addr} {ci n:Nat} {ds:List D} {fp:List Addr} {F:Nat→List Addr} {σ:L2.St} (hp:H p=some (.ins (cl ci) dx [])) (hdx:H dx=some (.own p)) (hne:dx≠p) (hoff:∀ b∈fp,b≠p∧b≠dx)
  (S:SOK cl H (ds.map (fun d=>some (d,false))++yt n none) F σ H) (hF:∀ i d,ds[i]?=some d→∀ a∈F i,a∈fp) :
  SOK cl (offN H p dx) (some (.obj ci [],true)::(ds.map (fun d=>some (d,false))++yt n none)) (fun i=>match i with | 0=>[p,dx] | i+1=>F i) (some (.ref p)::σ) H:=by
 have out:∀ {i:Nat} {d:D} {o:Bool},(ds.map (fun d=>some (d,false))++yt n none)[i]?=some (some (d,o))→∀ b∈F i,b≠p∧b≠dx:=fun h b hb=>hoff b (hF _ _ (z9 (jM h).2) b hb)
 refine ⟨off_same,congrArg mn S.len,fun i d o h=>?_,fun i d h=>?_,fun i j d e o hij h h'=>?_,fun i d h b hb=>?_⟩
 ·cases i with
  | zero =>
   injection h with h; injection h with h; injection h with h
   subst h
   refine ⟨.ref p,rfl, ?_⟩
   unfold Rep
   exact ⟨p,dx,[],[],rfl,rfl,hp,hdx,rfl,by unfold RepF; exact ⟨rfl,rfl⟩⟩
  | succ i=>exact S.rep i d o h
 ·cases i with
  | zero =>
   refine ⟨y0.mpr ⟨fun z=>hne (ye.mp z).symm,y0.mpr ⟨xg,vm⟩⟩,fun b hb=>?_⟩
   rcases y6.mp hb with z | z
   ·rw [z]; exact ⟨if_pos (.inl rfl),fun o u q=>by rw [hp] at q; injection q with q; injection q⟩
   ·rw [ye.mp z]; exact ⟨if_pos (.inr rfl),fun o u q=>by rw [hdx] at q; injection q with q; injection q⟩
  | succ i=>exact px (jM h).1
 ·cases i with
  | zero =>
   cases j with
   | zero=>exact absurd rfl hij
   | succ j=>exact fun b hb hF=>(y6.mp hb).elim (out h' b hF).1 fun z=>(out h' b hF).2 (ye.mp z)
  | succ i=>exact px (jM h).1
 ·cases i with
  | zero=>injection h with h; injection h with h; injection h with _ h; injection h
  | succ i=>exact fun z=>S.old i d h b hb ((off_eq (out h b hb).1 (out h b hb).2).symm.trans z)
theorem init_inv {fn:Fn} {M:Tab} {ci:Nat} {ds:List D} {r:D} (e:fn.init M ci ds=.ok r):(ds.length+1=fn.par∧fn.par≤fn.slots) ∧
  ∃ ρ,al M fn.body (some (.obj ci [],true)::(ds.map (fun d=>some (d,false))++yt (fn.slots - fn.par) none))=.nx ρ∧ρ[(0:Nat)]?=some (some (r,true)):=by
 unfold Fn.init at e
 by_cases hc:ds.length+1=fn.par∧fn.par≤fn.slots
 ·rw [if_pos hc] at e
  refine ⟨hc, ?_⟩
  cases hd:al M fn.body (some (.obj ci [],true)::(ds.map (fun d=>some (d,false))++yt (fn.slots - fn.par) none)) with
  | nx ρ =>
   rw [hd] at e
   refine ⟨ρ,rfl, ?_⟩
   cases h0:ρ[(0:Nat)]? with
   | none=>simp only [h0] at e; injection e
   | some y =>
    cases y with
    | none=>simp only [h0] at e; injection e
    | some y =>
     obtain ⟨d,o⟩:=y
     cases o with
     | false=>simp only [h0] at e; injection e
     | true=>simp only [h0] at e; injection e with e; rw [e]
  | _=>rw [hd] at e; injection e
 ·rw [if_neg hc] at e; injection e
theorem init_ok {x qual:Str} {st:Stmt} {f:Addr} {fd:x6} {N ps:List Str} {kk ci:Nat} {M:Tab} {fn:Fn} (Fu:Fun K x qual st f fd) (Sc:aO N ps (ab st)) (hps:ps.length=fn.par) (hN:N.length=fn.slots)
  (hb:∀ (cdv:Value) (A:Around) (outer:List PySem.Env) (s:Shared) (H:Hp) (E:XK),Room kk (A.deeper (envOfC qual (ab st) s.heap.objs.size f cdv)) →
   ∀ ρ,PSs (cxOf CX0 P w K mg base N qual (ab st) f cdv A outer s H E).nox (ag st) (tSd cl ρ (asgs fn.body) (al M fn.body ρ))) (h00:0∉asgs fn.body) :
  FnOk P w K mg base CX0 (kk+1) f fd ps (spI cl ci (fn.init M ci)):=by
 refine Fu.ok Sc (fun vs H Q E h=>?_) fun cdv A outer s H vs Q E hr h=>zw fun P_ k_=>?_
 ·obtain ⟨p,dx,ws,ds,fp,r,ev,_,_,_,rl,_,e,_⟩:=h
  rw [ev,yx,rl.len,(init_inv e).1.1,hps]
 ·obtain ⟨p,dx,ws,ds,fp,r,ev,hp,hdx,hne,rl,hoff,e,cont⟩:=h
  obtain ⟨hc,ρ',hd,hl⟩:=init_inv e
  subst ev
  obtain ⟨F,S,hF'⟩:=start_sok2 (N:=N.tail) (n:=fn.slots - 1) rl (by rw [List.length_tail,hN]) (Nat.le_sub_of_add_le (z5 (xy hc.1) hc.2))
  rw [show fn.slots - 1 - ds.length=fn.slots - fn.par by rw [Nat.sub_sub,p9,hc.1]] at S
  have est:L2.dI N (.ref p::ws)=some (.ref p)::L2.dI N.tail ws:=by
   cases N with
   | nil =>
    have h0:=z5 (xy hc.1) hc.2
    rw [← hN] at h0
    exact absurd h0 (Nat.not_succ_le_zero _)
   | cons n0 N'=>unfold L2.dI; simp
  have S0:=init_sok hp hdx hne hoff S hF'
  rw [← est] at S0
  refine k_ ⟨_,hb cdv A outer s H E hr _,offN H p dx,_,S0, ?_⟩
  rw [hd]
  intro σ' H' F'' S' hfr
  obtain ⟨v,h1,r1⟩:=S'.rep 0 _ _ hl
  have hv:v=.ref p:=by
   have h2:=(hfr 0 h00).symm.trans h1
   rw [est] at h2
   injection h2 with h2; injection h2 with h2
   exact h2.symm
  subst hv
  refine cont H' (F'' 0) (fun b o z h1 h2=>S'.same b o ((off_eq h1 h2).trans z)) r1 (S'.own 0 _ hl).1 fun b hb=>⟨?_,((S'.own 0 _ hl).2 b hb).2⟩
  by_cases h1:b=p
  ·exact .inl h1
  ·by_cases h2:b=dx
   ·exact .inr (.inl h2)
   ·exact .inr (.inr ((off_eq h1 h2).symm.trans ((S'.own 0 _ hl).2 b hb).1))
end
end Vi
namespace PySem
open Sem (wp)
namespace VD
theorem list_nokeys : pp (.type "list") "keys" = pure none := by rw [vo, xw]; kernel_rfl
set_option maxRecDepth 100000 in
theorem keys_list {prog:yp} {w:World} {A:Around} {E:Value→Shared→Prop} {s:Shared} {a:Addr} {o:Obj} {xs:Array Value} {k:Nat} {Q:Option Value→Shared→Prop}
  (hx : s.heap.get? a = some o) (hc : o.cls = .type "list") (hdat : o.data = .seq xs k) (hd : o.dict = none) (hA : A.handled = none)
  (h:∀ h' tk,(∀ b o,s.heap.get? b=some o→h'.get? b=some o)→Q none { s with heap:=h',toks:=tk }) :
  wpAny (model prog w) A (getAttr? (.ref a) "keys") Q E s := by
 obtain ⟨c,dct,dat,sl⟩:=o
 simp only at hc hdat hd
 subst hc hdat hd
 obtain ⟨hp,g,d,tk,os⟩:=s
 have hT : ∀ tk', (⟨hp, g, d, tk', os⟩ : Shared).TypeIs (.ref a) "list" := fun _ => ⟨_, hx, rfl⟩
 have f1:=sub_AttributeError
 have f3:=qo.lookup
 have f4:=qo.bind (.ref a)
 have f5:=am_list_getattr_none
 unfold getAttr? getAttrBy? getAttrBy
 repeat (any_goals (first | assumption | exact hT _ | ((with_reducible show wpAny _ _ (call (Value.builtin "list.__getattribute__") _ _) _ _ _); refine pq qo (hT _) am_entry_list_getattribute (F.args_list_getattribute_2 _ _) (meets_getattribute_miss_list a xs k sl "keys" _ list_nokeys (by decide +kernel) (by size_fits)) ⟨hx, hA, fun h' tk' e hx' => ?_⟩) | wp_step))
 obtain ⟨t',u',he⟩:=hx'.there
 show wpAny _ _ (getattributeRaised _ _ _ _ _ _ _) _ _ _
 unfold getattributeRaised
 repeat (any_goals (first | assumption | wp_step))
 exact h _ _ hx'.of.keeps
theorem iz : entryFor table "dict.update.loop" = some Builtin.«dict.update.loop» := entryFor_of_tree (by kernel_rfl)
theorem plain_loop : plainId "dict.update.loop" = true := by decide +kernel
noncomputable def PairAt {prog:yp} {w:World} {K:Type} [DecidableEq K] (knd:KeyKind prog w K) (h:Heap) (u:Value) (p:K × Value):Prop:=∃ t kv,u=.ref t∧h.IsTuple t #[kv,p.2]∧knd.is p.1 kv=true
section
variable {prog:yp} {w:World} {K:Type} [DecidableEq K] {knd:KeyKind prog w K} {A:Around} {R:Result→Shared→Prop} {src it d:Addr} {h0:Heap} {its:List Value} {ps:List (K × Value)}
theorem loop_ok (hh:A.handled=none) (hsd:src≠d) (hsi:src≠it) (hid:it≠d) (hL:h0.IsList src its.toArray) (hlen:its.length=ps.length) (hp:∀ (i:Nat) u p,its[i]?=some u→ps[i]?=some p→PairAt knd h0 u p) (hnd:∀ (i:Nat) t,its[i]?=some (.ref t)→t≠d∧t≠it) (hbig:ps.length≤y4) :
  ∀ (n i:Nat) (kvs:List (K × Value)) (s:Shared),its.length - i=n→i≤its.length→kvs.length≤i→(∀ b o,b≠d→b≠it→h0.get? b=some o→s.heap.get? b=some o)→s.heap.IsListIter it src i→s.heap.DictOf knd d kvs →
   (∀ h' tk,(∀ b o,b≠d→b≠it→s.heap.get? b=some o→h'.get? b=some o)→h'.DictOf knd d (merged kvs (ps.drop i))→R (.ok (.ret .none)) { s with heap:=h',toks:=tk }) →
   qq (model prog w) A (.builtin "dict.update.loop" ⟨[.ref d, .ref it, .int i 0, .none], []⟩) R s := by
 intro n
 induction n with
 | zero =>
  intro i kvs s hn hi hkl hk hit hd hR
  have hin:i=its.length:=Nat.le_antisymm hi (Nat.le_of_sub_eq_zero hn)
  have hls:s.heap.IsList src its.toArray:=by obtain ⟨o,ho,r⟩:=hL; exact ⟨o,hk _ _ hsd hsi ho,r⟩
  refine qp iz ?_
  rw [t4 plain_loop _]
  show wpAny _ A.in1 (pyNext (.ref it) >>= _) _ _ s
  refine z6 (wpAny_pyNext_list_end (A:=A.in1) hh hit hls (by simp [hin]) fun h' eb=>?_)
  show wpAny _ _ (xa.Dict.addKeywords d [] >>= _) _ _ _
  refine z6 (zr (zr ?_))
  refine hR h' _ (fun b o hb hbi e=>eb b o hbi e) ?_
  rw [List.drop_of_length_le (by rw [← hlen]; exact xy hin.symm)]
  exact hd.extBut eb (wt hid)
 | succ n ih =>
  intro i kvs s hn hi hkl hk hit hd hR
  have hlt:i < its.length:=Nat.sub_pos_iff_lt.mp (by rw [hn]; exact Nat.succ_pos n)
  have hlp:i < ps.length:=hlen ▸ hlt
  have hls:s.heap.IsList src its.toArray:=by obtain ⟨o,ho,r⟩:=hL; exact ⟨o,hk _ _ hsd hsi ho,r⟩
  obtain ⟨t,kv,eu,ht,hkey⟩:=hp i its[i] ps[i] (z9 hlt) (z9 hlp)
  obtain ⟨ntd,nti⟩:=hnd i t (by rw [z9 hlt,eu])
  refine qp iz ?_
  rw [t4 plain_loop _]
  show wpAny _ A.in1 (pyNext (.ref it) >>= _) _ _ s
  refine z6 (wpAny_pyNext_list_item (A:=A.in1) hit hls (x:=its[i]) (by simp [hlt]) fun h1 hit1 sb=>?_)
  rw [eu]
  have ht1:h1.IsTuple t #[kv,ps[i].2]:=by
   obtain ⟨o,ho,r⟩:=ht
   exact ⟨o,(sb.2 t nti).trans (hk _ _ ntd nti ho),r⟩
  have hd1:h1.DictOf knd d kvs:=hd.sameBut sb (wt hid)
  obtain ⟨o,ho,hc,m,hdat⟩:=id ht1
  have hT : ({ s with heap := h1 } : Shared).TypeIs (.ref t) "tuple" := ⟨o, ho, hc⟩
  refine z6 (pz (z6 (wpAny_tryCatch ?_)))
  unfold xa.Dict.pairItems
  refine z6 (oy hT ?_)
  show wpAny _ _ (if (Value.type "tuple" == Value.type "list" || Value.type "tuple" == Value.type "tuple") = true then _ else _) _ _ _
  rw [if_pos (by decide)]
  refine z6 (wpAny_seqItems ho hdat (zr ?_))
  show wpAny _ _ (holding [kv,ps[i].2] (dictSet d kv ps[i].2)) _ _ _
  refine pz (wpAny_dictSet_pairs (s:={ s with heap:=h1 }) hkey hd1 (fun h2 hd2 sb2=>?_) (by first | exact z5 (z5 hkl (xn hlp)) hbig | exact zg hkl (zm hlp hbig)))
  refine zr ⟨qi plain_loop _, ?_⟩
  have e : (Code.builtin "dict.update.loop" ⟨[.ref d, .ref it, rawInt ((i : Int) + 1), .none], []⟩) = Code.builtin "dict.update.loop" ⟨[.ref d, .ref it, .int ((i + 1 : Nat) : Int) 0, .none], []⟩ := by
   rfl
  show qq _ _ (Code.builtin "dict.update.loop" ⟨[.ref d, .ref it, rawInt ((i : Int) + 1), .none], []⟩) _ _
  rw [e]
  have hl2:(stored kvs ps[i].1 ps[i].2).length≤i+1:=by
   unfold stored
   split
   ·rw [z7]; exact we ‹_›
   ·rw [zl,xx]; exact r4 ‹_›
  refine ih (i+1) (stored kvs ps[i].1 ps[i].2) _ (by rw [Nat.sub_succ,hn]; rfl) (by assumption) hl2 (fun b o hb hbi e=>(sb2.2 b hb).trans ((sb.2 b hbi).trans (hk b o hb hbi e))) ?_ hd2 fun h' tk hk' hd'=>?_
  ·obtain ⟨oi,hoi,r⟩:=hit1
   exact ⟨oi,(sb2.2 it hid).trans hoi,r⟩
  ·refine hR h' tk (fun b o hb hbi e=>hk' b o hb hbi ((sb2.2 b hb).trans ((sb.2 b hbi).trans e))) ?_
   have ed:ps.drop i=ps[i]::ps.drop (i+1):=vq hlp
   rw [ed]
   exact hd'
end
end VD
end PySem
namespace Vi
open PySem PySem.Spec PyProof.Rows L2
section
variable {X:Cx} {cl:Nat→Addr} {pins:List (Addr × Obj)} {σ:L2.St} {H:Hp} {s:Shared}
theorem pairsD_cons {d:D} {l:List D} {ps:List (Key × D)} (h:cW (d::l)=some ps):∃ kd vd k ps',d=.tup [kd,vd]∧cA kd=some k∧cW l=some ps'∧ps=(k,vd)::ps':=by
 cases d with
 | tup q =>
  cases q with
  | nil=>injection h
  | cons kd q =>
   cases q with
   | nil=>injection h
   | cons vd q =>
    cases q with
    | cons _ _=>injection h
    | nil =>
     have h:(match cA kd,cW l with | some k,some ps=>some ((k,vd)::ps) | _,_=>none)=some ps:=h
     cases hk:cA kd with
     | none=>rw [hk] at h; injection h
     | some k =>
      rw [hk] at h
      cases hp:cW l with
      | none=>rw [hp] at h; injection h
      | some ps'=>rw [hp] at h; injection h with h; exact ⟨kd,vd,k,ps',rfl,hk,rfl,h.symm⟩
 | _=>injection h
theorem tup2 {H:Hp} {a b:D} {v:V} {f:List Addr} (r:Rep cl H (.tup [a,b]) v f):∃ t w1 w2 fa fb,v=.ref t∧H t=some (.tup [w1,w2])∧Rep cl H a w1 fa∧Rep cl H b w2 fb:=by
 obtain ⟨t,ws,et,ht,rl⟩:=r
 obtain ⟨w1,wr1,fa,fb,e1,_,x1,rl⟩:=rl
 obtain ⟨w2,wr2,fc,fd,e2,_,x2,rl⟩:=rl
 rw [e1,e2,rl.1] at ht
 exact ⟨t,w1,w2,fa,fc,et,ht,x1,x2⟩
theorem pairs_heap (I:Inv X pins σ H s):∀ {l:List D} {vs:List V} {g:List Addr} {its:List Value} {ps:List (Key × D)},cW l=some ps→immL (ps.map (·.2))=true→RepL cl H l vs g→Vals vs its →
  ∃ (kvs:List (Key × V)) (rs:List (Key × Value)),ps.map (·.1)=kvs.map (·.1)∧RepL cl H (ps.map (·.2)) (kvs.map (·.2)) []∧KV kvs rs∧its.length=rs.length∧(∀ (i:Nat) u p,its[i]?=some u→rs[i]?=some p→VD.PairAt (bf X.prog X.w) s.heap u p)∧∀ (i:Nat) t,its[i]?=some (.ref t)→t < s.heap.objs.size:=by
 intro x_0
 induction x_0 with
 | nil =>
  intro vs g its ps h hi r rv
  (injection h with h; subst h)
  obtain ⟨e,_⟩:=r
  subst e
  cases rv
  exact ⟨[],[],rfl,⟨rfl,rfl⟩,.nil,rfl,fun i u p h=>by simp at h,fun i t h=>by simp at h⟩
 | cons d l ih_ =>
  intro vs g its ps h hi r rv
  refine zw fun P_ k_=>?_
  obtain ⟨v,vr,f1,g1,ev,ef,r1,r2⟩:=r
  obtain ⟨kd,vd,k,ps',ed,hk,hps,ep⟩:=pairsD_cons h
  subst ev; subst ed; subst ep
  cases rv with
  | @cons _ u _ ir ru rr =>
  have hi':vd.imm=true∧immL (ps'.map (·.2))=true:=by simpa [immL] using hi
  obtain ⟨kvs,rs,h1,h2,h3,h4,h5,h6⟩:=ih_ hps hi'.2 r2 rr
  obtain ⟨t,w1,w2,fa,fb,et,ht,x1,x2⟩:=tup2 r1
  subst et
  subst ru
  have ek:=jl hk x1
  subst ek
  have fx:=x2.imm hi'.1
  subst fx
  obtain ⟨_,us,hus,htup⟩:=(show bQ X.prog X.w H s.heap t (.tup [kV k,w2]) from I.hok t _ ht)
  obtain ⟨u1,u2,eus,ru1,ru2⟩:=Vals.two hus
  subst eus
  refine k_ ⟨(k,w2)::kvs,(k,u2)::rs,by rw [zc,zc,h1], ?_,.cons ⟨rfl,ru2⟩ h3,congrArg mn h4,fun i u p hu hp=>?_,fun i t' ht'=>?_⟩
  ·rw [zc,zc]
   unfold RepL
   exact ⟨w2,_,[],[],rfl,rfl,x2,h2⟩
  ·cases i with
   | zero =>
    (injection hu with hu; subst hu)
    (injection hp with hp; subst hp)
    exact ⟨t,u1,rfl,htup,kV_is ru1⟩
   | succ i=>exact h5 i u p hu hp
  ·cases i with
   | zero=>injection ht' with ht'; injection ht' with ht'; subst ht'; obtain ⟨o,ho,_⟩:=htup; exact zt ho
   | succ i=>exact h6 i t' ht'
theorem merge_rep {H':Hp}:∀ {ps:List (Key × D)} {kvs:List (Key × V)} {l:List (Key × D)} {ws:List (Key × V)},ps.map (·.1)=kvs.map (·.1)→RepL cl H' (ps.map (·.2)) (kvs.map (·.2)) []→l.map (·.1)=ws.map (·.1)→RepL cl H' (l.map (·.2)) (ws.map (·.2)) [] →
  (gJ l ps).map (·.1)=(eE ws kvs).map (·.1)∧RepL cl H' ((gJ l ps).map (·.2)) ((eE ws kvs).map (·.2)) []:=by
 intro x_0
 induction x_0 with
 | nil =>
  intro x_1
  cases x_1 with
  | nil =>
   intro l ws _ _ h3 h4
   exact ⟨h3,h4⟩
  | cons _ _ =>
   intro _ _ e _ _ _
   simp at e
 | cons p_0 ps ih_ =>
  obtain ⟨k1,d⟩:=p_0
  intro x_1
  cases x_1 with
  | nil =>
   intro _ _ e _ _ _
   simp at e
  | cons p_1 kvs =>
   obtain ⟨k2,v⟩:=p_1
   intro l ws e r h3 h4
   rw [zc,zc] at e r
   injection e with e1 e2
   have e1:k1=k2:=e1
   subst e1
   refine zz fun P_ k_=>?_
   obtain ⟨v',vr,f1,g1,ev,ef,r1,r2⟩:=r
   refine k_ ?_
   injection ev with ev1 ev2
   subst ev1; subst ev2
   have:f1=[]∧g1=[]:=by simpa using ef.symm
   rw [this.1] at r1
   rw [this.2] at r2
   refine zz fun P_ k_=>?_
   obtain ⟨h5,f',h6,h7⟩:=put_rep (k:=k1) h3 h4 r1
   refine k_ ?_
   have:f'=[]:=List.sublist_nil.mp h6
   subst this
   have z:=ih_ e2 r2 h5 h7
   exact z
set_option tactic.hygienic true in
theorem bi_dict (hc : X.calm = true) {ds : List D} {z : D} (h : biD .dict ds = .ok z) : BiR X cl (.type "dict") ds z := by
 intro pins s σ H xs us Q I r hh_
 refine zz fun P_ k_=>?_
 obtain ⟨fp,rl,q⟩:=hh_
 obtain ⟨d,rfl⟩:=fH h
 refine k_ ?_
 cases d with
 | lst l =>
  simp only [biD_1,biD_2,biD_3,biD_4,biD_5,biD_6,gZ,gY,jK,g0,fP,iM,iL,iK,iJ,iI,iH,iG,iF] at h
  split at h
  ·rename_i ps hps
   split at h
   ·rename_i hcond
    (injection h with h; subst h)
    refine zz fun P_ k_=>?_
    obtain ⟨x,f,ex,rx⟩:=rep1 rl
    obtain ⟨p,vs,g,e,hs,hl⟩:=bz (K:=X.K) rx
    refine k_ ?_
    subst ex; subst e
    obtain ⟨u,rfl,rx'⟩:=g9 r
    subst rx'
    refine zz fun P_ k_=>?_
    obtain ⟨its,r',pl,hz⟩:=I.list hs
    obtain ⟨kvs,rs,p1,p2,p3,p4,p5,p6⟩:=pairs_heap I hps hcond.1 hl r'
    refine k_ ?_
    have hh:=I.ok.hd hc
    have hrl:rs.length=ps.length:=by rw [← p3.length]; have:=congrArg vg p1; simpa using this.symm
    have hbig:rs.length≤y4:=by rw [hrl,sg]; have:=hcond.2; exact z5 ‹_› (by decide)
    have hp0:p < s.heap.objs.size:=by obtain ⟨_,e,_⟩:=pl.isList; exact zt e
    refine callType_codes (Q₁ := fun obj s₁ => obj = .ref s.heap.objs.size ∧ s₁ = { s with heap := s.heap.push { cls := .type "dict", data := .dict #[] } }) F.kt_called_dict (F.kt_typeCall_dict_1 _) F.entry_dict_init (kt_code_dict_new _ ⟨rfl, rfl⟩) ?_
    rintro obj s₁ ⟨rfl,rfl⟩
    have hnew : (s.heap.push { cls := .type "dict", data := .dict #[] }).DictOf (bf X.prog X.w) s.heap.objs.size [] := Heap.DictOf.new s.heap
    have hls : (s.heap.push { cls := .type "dict", data := .dict #[] }).IsList p its.toArray := pl.isList.push _
    refine ⟨hnew.typeIs,F.args_dict_init_2 _ _, ?_⟩
    unfold Builtin.«dict.__init__»
    refine z6 ?_
    unfold xa.Dict.selfAndRest
    refine z6 (wpAny_notOrdered_dict hnew.typeIs ?_)
    show wpAny _ _ (pure (s.heap.objs.size,[x9 p])) _ _ _
    refine zr ?_
    show wpAny _ _ (xa.Dict.updateFrom "dict.__init__" s.heap.objs.size (.ref p) [] .none) _ _ _
    unfold xa.Dict.updateFrom
    refine z6 (oy hls.typeIs ?_)
    rw [if_pos (by decide)]
    refine zz fun P_ k_=>?_
    obtain ⟨ol,nl,hol,hcl,hdict,hdat⟩:=id pl
    refine k_ ?_
    refine z6 (VD.keys_list (A:=X.A.in1.in1) (zb _ hol) hcl hdat hdict hh fun h1 tk1 k1=>?_)
    rw [if_pos (show (none:Option Value).isNone=true from rfl)]
    refine z6 (wpAny_rule ?_)
    have hl1:h1.IsList p its.toArray:=by obtain ⟨o,ho,r⟩:=hls; exact ⟨o,k1 _ _ ho,r⟩
    have hd1:h1.DictOf (bf X.prog X.w) s.heap.objs.size []:=by obtain ⟨o,es,ep,ho,r⟩:=hnew; exact ⟨o,es,ep,k1 _ _ ho,r⟩
    have hsz:s.heap.objs.size < h1.objs.size:=by obtain ⟨o,es,ep,ho,r⟩:=hd1; exact zt ho
    refine z6 (p0 (s:={ s with heap:=h1,toks:=tk1 }) hl1 ?_)
    refine zr ⟨qi VD.plain_loop _, ?_⟩
    refine VD.loop_ok (A:=X.A.in1) (knd:=bf X.prog X.w) (src:=p) (it:=h1.objs.size) (d:=s.heap.objs.size) (h0:=s.heap) (its:=its) (ps:=rs) hh (yh hp0) (yh (vb hp0 hsz)) (p8 hsz) pl.isList p4 p5
     (fun i t ht=>⟨yh (p6 i t ht),yh (vb (p6 i t ht) hsz)⟩) hbig its.length 0 [] _ (by rfl) (xc _) (zf _) (fun b o hb hbi e=>zb _ (k1 b o (zb _ e))) ⟨_,zy _ rfl,rfl,rfl⟩ (hd1.push _) fun h' tk hk' hd'=>?_
    refine ⟨rfl,.ref s.heap.objs.size,upd H s.heap.objs.size (.dK (eE [] kvs)), ?_,rfl, ?_⟩
    ·have hzl:(eE [] kvs).length≤y4:=by
      have h1:=jg kvs []
      have h2:=p3.length
      rw [List.length_nil] at h1
      (clear hc I hps hcond q hs hl rx rl r r' pl hz p1 p2 p3 p4 p5 p6 hh hrl hp0 hnew hls hol hcl hdict hdat k1 hl1 hd1 hsz hk' hd'; omega)
     refine I.laid (h':=h') (t':=tk) (a:=s.heap.objs.size) (fun b o e=>hk' b o (yh (zt e)) (yh (vb (zt e) hsz)) (zb _ (k1 b o (zb _ e)))) (zf _) ?_
     exact dk_new hzl (beq_eq_false_iff_ne.mpr (wt (yh I.big))) (KV.merge p3 .nil) (by simpa using hd')
    ·have hn:H s.heap.objs.size=none:=I.fresh
     have sn:=Same.new (o:=HO.dK (eE [] kvs)) hn
     obtain ⟨m1,m2⟩:=merge_rep (cl:=cl) (H':=H) (l:=[]) (ws:=[]) p1 p2 rfl ⟨rfl,rfl⟩
     refine q (.ref s.heap.objs.size) _ [s.heap.objs.size] sn ?_ (cw.one hn (fI (o:=.dK (eE [] kvs)) (by intro _ _ z; injection z)))
     unfold Rep
     exact ⟨s.heap.objs.size,[],eE [] kvs,rfl,rfl,.inl ai,m1,RepM.l.mpr (m2.same sn)⟩
   ·injection h
  ·injection h
 | _=>injection h
end
end Vi
namespace Vi
open PySem PySem.Spec PyProof.Rows L2
noncomputable def compB (names:List (Str × ya)) (ko:Str→Option ya):Bool:=names.all fun y=>match y.2 with
 | .cell=>false
 | .local=>names.lookup y.1 == some .local
 | .free=>names.lookup y.1 == some .free && (ko y.1 == some .cell || ko y.1 == some .free)
 | _=>true
theorem bm {X:Cx} {sc:Scope} (hk:sc.kind=.function) (h:compB sc.names X.env.kindOf=true):d5 X sc:=by
 unfold compB at h
 rw [q4] at h
 refine ⟨hk,fun y hy e=>?_,fun y hy e=>?_,fun y hy e=>?_⟩
 ·have:=h y hy; rw [e] at this; injection this
 ·have:=h y hy; rw [e] at this; exact eq_of_beq this
 ·have:=h y hy
  rw [e] at this
  have this:(sc.names.lookup y.1 == some .free && (X.env.kindOf y.1 == some .cell || X.env.kindOf y.1 == some .free))=true:=this
  rw [u0,Bool.or_eq_true] at this
  exact ⟨eq_of_beq this.1,this.2.imp eq_of_beq eq_of_beq⟩
noncomputable def howB (names:List (Str × ya)) (tg:List Nat):List Str→Nat→Bool
 | [],_=>true
 | x::r,i=>(!(names.lookup x == some ya.local) || tg.contains i) && howB names tg r (i+1)
theorem how_at {names:List (Str × ya)} {tg:List Nat}:∀ {N:List Str} {k i:Nat} {x:Str},howB names tg N k=true→N[i]?=some x→names.lookup x=some ya.local→k+i∈tg:=by
 intro x_0
 induction x_0 with
 | nil =>
  intro _ _ _ _ h _
  simp at h
 | cons y r ih_ =>
  intro k x_2
  cases x_2 with
  | zero =>
   intro x h e l
   have e:y=x:=by simpa using e
   subst e
   have h:((!(names.lookup y == some ya.local) || tg.contains k) && howB names tg r (k+1))=true:=h
   rw [u0,l] at h
   simpa using h.1
  | succ i =>
   intro x h e l
   have h:((!(names.lookup y == some ya.local) || tg.contains k) && howB names tg r (k+1))=true:=h
   rw [u0] at h
   have:=ih_ h.2 (by simpa using e) l
   rwa [show k+1+i=k+(i+1) by exact sk _ _ _] at this
theorem cY {X:Cx} {sc:Scope} {tg:List Nat} (h:howB sc.names tg X.N 0=true):∀ (i:Nat) (x:Str),X.N[i]?=some x→sc.names.lookup x=some ya.local→i∈tg:=fun i x e l=>by
 have:=how_at h e l
 rwa [n9] at this
structure Lnk (P:yp) (w:World) (K:ze) (mg:Str→Option Value) (base:Heap) (cl:Nat→Addr) (x:Str) (lev:Nat) (ps:List Str) (m:List D→R D):Prop where
 ex:∃ f fd,FnOk P w K mg base CX0 lev f fd ps (spP cl m)∧mg x=some (.ref f)∧yb K (.ref f)=true∧eN K fd ps []
section
variable {X:Cx} {cl:Nat→Addr} {M:Tab} {a b c e o:Expr} {es rest:List Expr} {pos p p2 apos cpos:Pos} {a' b' c' e' o':E} {es':List E}
theorem aS {i lev kk:Nat} {ps:List Str} {x:Str} (L:Lnk X.prog X.w X.K X.mg X.base cl x lev ps (M.fn i)) (hr:Room kk X.A) (hl:lev≤kk) (hg:Gl X x)
  (hd : (x == ("__debug__" : Str)) = false) (he : zh (e :: es) X.env = (false, eval e X.env) :: zh es X.env) (hpl : (backTo pos (zh es X.env)).any (·.1) = false) (ha : GA X cl M (e :: es) es') : GE X cl M (.Call (.Name x p) (e :: es) [] pos) (.call i es') := by
 obtain ⟨f,fd,F,hm,hk,hb⟩:=L.ex
 exact g_call F (hr.mono hl) hg hm hk hb hd he hpl ha
structure LnkM (P:yp) (w:World) (K:ze) (mg:Str→Option Value) (base:Heap) (cl:Nat→Addr) (C:Addr) (x:Str) (lev:Nat) (ps:List Str) (m:List D→R D):Prop where
 ex:∃ f fd,FnOk P w K mg base CX0 lev f fd ps (spP cl m)∧Meth K C x f∧eN K fd ps []
theorem g_methL {i lev kk:Nat} {C:Addr} {ps:List Str} {m:Str} {pl:Sem Bool} (L:LnkM X.prog X.w X.K X.mg X.base cl C m lev ps (M.fn i)) (hC:∀ c,cl c=C) (c:Cls X.K C) (hr:Room kk X.A) (hl:lev≤kk)
  (hst:zh (e::es) X.env=(false,eval e X.env)::zh es X.env) (hpl:(backTo pos (zh es X.env)).any (·.1)=false)
  (ht:eval (.Call (.Attribute o m apos) (e::es) [] pos) X.env=(do
   let ov ← eval o X.env
   standAt apos.atName
   let (f,first) ← holding [ov] (getMethod ov m pl)
   callWith pos f first (backTo pos (zh (e::es) X.env)) (backToKw pos (o3 [] X.env))))
  (ho:GE X cl M o o') (ha:GA X cl M (e::es) es'):GE X cl M (.Call (.Attribute o m apos) (e::es) [] pos) (.meth i m o' es'):=by
 obtain ⟨f,fd,F,hm,hb⟩:=L.ex
 exact g_meth (pl:=pl) hC c hm F (hr.mono hl) hb hst hpl ht ho ha
structure LnkI (P:yp) (w:World) (K:ze) (mg:Str→Option Value) (base:Heap) (cl:Nat→Addr) (C:Addr) (x:Str) (lev:Nat) (ps:List Str) (ci:Nat) (m:List D→R D):Prop where
 ex:∃ f fd,FnOk P w K mg base CX0 lev f fd ps (spI cl ci m)∧Mk K C f∧mg x=some (.ref C)∧eN K fd ps []
theorem g_makeL {i lev kk ci:Nat} {C:Addr} {ps:List Str} {x:Str} (L:LnkI X.prog X.w X.K X.mg X.base cl C x lev ps ci (M.new i)) (hC:∀ c,cl c=C) (hr:Room kk X.A) (hl:lev+1≤kk) (hg:Gl X x)
  (hd : (x == ("__debug__" : Str)) = false) (he : zh (e :: es) X.env = (false, eval e X.env) :: zh es X.env) (hpl : (backTo pos (zh es X.env)).any (·.1) = false) (ha : GA X cl M (e :: es) es') : GE X cl M (.Call (.Name x p) (e :: es) [] pos) (.make i es') := by
 obtain ⟨f,fd,F,hm,hx,hb⟩:=L.ex
 exact g_make (hC ci) hm F (hr.mono hl) hg hx hb hd he hpl ha
theorem g_cmpE {o:Cp} (hu:X.A.units+8 < cLine) (hm:sv (cpOf o) b=false) (ha:GE X cl M a a') (hb:GE X cl M b b'):GE X cl M (.Compare a [cpOf o] [b] pos) (.cmp o a' b'):=(g_cmp hu hm ha hb).1
theorem aU {o:Cp} (hu:X.A.units+8 < cLine) (hm:sv (cpOf o) b=false) (ha:GE X cl M a a') (hb:GE X cl M b b'):GT X cl M (.Compare a [cpOf o] [b] pos) (.cmp o a' b'):=(g_cmp hu hm ha hb).2
theorem hu8 {kk:Nat} {A:Around} (hr:Room kk A):A.units+8 < cLine:=by have:=hr.units; (clear hr; omega)
end
end Vi
namespace L2
open PySem PySem.Spec PyProof.Rows
section
variable {X:Cx} {pins:List (Addr × Obj)} {σ:St} {H:Hp} {s:Shared}
theorem Inv.turnedNew {t':Nat} {ch:List Addr} {p:Addr} {o:HO} {h':Heap} (I:Inv X pins σ H s) (hch:∀ b∈ch,FpOk X pins H b) (k:∀ b o,b∉ch→s.heap.get? b=some o→h'.get? b=some o) (hp:s.heap.objs.size≤p)
  (new:bQ X.prog X.w (upd H p o) h' p o):Inv X pins σ (upd H p o) { s with heap:=h',toks:=t' }:=by
 have hn:H p=none:=I.hok.fresh hp
 have nit:∀ b u,H b=some u→b∉ch:=fun b u e z=>by rw [(hch b z).1] at e; injection e
 have neP:∀ b u,H b=some u→b≠p:=fun b u e=>bg e hn
 have L:X.env.locals∉ch:=fun z=>(hch _ z).2.1 rfl
 refine I.step (g':=s.gens) (d':=s.drawn) (ch:=ch) (fun b hb=>⟨(hch b hb).2.2.2.1,(hch b hb).2.1,(hch b hb).2.2.2.2.1,(hch b hb).2.2.2.2.2⟩) (fun b o _ _ hc e _=>k b o hc e) (fun b o _ _ hc e _=>⟨o.slots,k b o hc e⟩)
  (fun b o _ e n=>by rw [ah (yh (zm (zt e) hp))]; exact n)
  (fun b o hc e=>⟨o,k b o hc e⟩) (fun b _ e=>by rw [ah (neP b _ e)]; exact e) (fun b _ _ e=>by rw [ah (neP b _ e)]; exact e) (fun b ps e=>⟨#[],by rw [ah (neP b _ e),e]; simp⟩) (fun m hm=>?_) (fun b u e=>?_) I.bare
 ·obtain ⟨o,es,ep,ho,r⟩:=hm
  exact ⟨o,es,ep,k _ o L ho,r⟩
 ·by_cases hb:b=p
  ·subst hb; rw [ai] at e; (injection e with e; subst e); exact new
  ·rw [ah hb] at e
   refine (I.hok b u e).stay (fun c v hc q=>k c v ?_ q) (fun c q=>by rw [ah (neP c _ q)]; exact q) fun c _ q=>by rw [ah (neP c _ q)]; exact q
   rcases hc with rfl | hc
   ·exact nit c u e
   ·exact nit c _ hc
noncomputable def Ite (K:ze) (a:Addr):It :=
 ⟨fun i H=>∃ xs x,SqL K H a xs∧xs[i]?=some x,fun i H x H'=>∃ p y,H p=none∧x=.ref p∧H'=upd H p (.tup [.int i,y])∧∀ xs,SqL K H a xs→xs[i]?=some y,fun i H=>∃ xs,SqL K H a xs∧xs.length≤i⟩
theorem turn_enum {P:yp} {w:World} {K:ze} {elts:List Expr} {x1} {pos:Pos} (a e it:Addr) (hne:e≠it):Turn P w K (.Tuple elts x1 pos) (Ite K a) [e,it] e (fun i h=>(∃ old,IsEnum h e it (i:Nat) old)∧h.IsListIter it a i) where
 mem:=by simp
 obj:=fun i h st b hb=>by
  have e:b=e∨b=it:=by simpa using hb
  refine zz fun P_ k_=>?_
  obtain ⟨⟨old,h1⟩,o,e2,c,d⟩:=st
  refine k_ ?_
  rcases e with rfl | rfl
  ·exact ⟨_,h1,fun v z=>by
    have z':Data.fields _=Data.cell v:=z
    injection z'⟩
  ·exact ⟨o,e2,fun v z=>by rw [d] at z; injection z⟩
 keep:=fun i h h' st k=>⟨let ⟨old,h1⟩:=st.1; ⟨old,k e (by simp) _ h1⟩,st.2.at fun o e=>k it (by simp) o e⟩
 item:=by
  intro X hP hw hK hc i pins s σ H E I hf st hg
  subst hP hw hK
  refine zz fun P_ k_=>?_
  obtain ⟨xs,x,hq,hx⟩:=hg
  obtain ⟨its,rv,p,hz⟩:=I.list hq
  obtain ⟨u,hu,ru⟩:=rv.get hx
  obtain ⟨⟨old,he⟩,hit⟩:=st
  refine k_ ?_
  have hlt:∀ b∈[e,it],b < s.heap.objs.size:=fun b hb=>by
   have z:b=e∨b=it:=by simpa using hb
   rcases z with rfl | rfl
   ·exact zt he
   ·obtain ⟨o,e2,_⟩:=hit; exact zt e2
  refine wpAny_pyNext_enum_item he hit p.isList (x:=u) (by simpa using hu) hne fun h1 heo hit1 ht hsz hk=>?_
  refine ⟨_,rfl,wpAny_letOwnedTupleGo_enum heo fun h2 he2 hs2=>?_⟩
  have hs2:t3 e h1 h2:=hs2
  have hpe:s.heap.objs.size≠e:=p8 (hlt e (by simp))
  have hk2:∀ b o,b∉[e,it]→s.heap.get? b=some o→h2.get? b=some o:=fun b o hb hbo=>by
   have z:b≠e∧b≠it:=by simpa using hb
   exact (hs2.2 b z.1).trans (hk b o z.1 z.2 hbo)
  have tup:IsTup h2 s.heap.objs.size #[.int i s.toks,u]:=⟨_,(hs2.2 _ hpe).trans ht,rfl,_,rfl⟩
  refine ⟨.ref s.heap.objs.size,upd H s.heap.objs.size (.tup [.int i,x]),I.turnedNew (ch:=[e,it]) hf hk2 (zf _) ?_,rfl,⟨_,x,I.hok.fresh (zf _),rfl,rfl,fun ys hy=>by rw [I.list_inj hy hq]; exact hx⟩,⟨⟨u,he2⟩,hit1.at fun o e2=>(hs2.2 it (wt hne)).trans e2⟩,fun b hb=>?_⟩
  ·exact ⟨by rw [sg]; show 2≤16777216; decide,[.int i s.toks,u],.cons ⟨_,rfl⟩ (.cons ru .nil),tup⟩
  ·rw [ah (yh (hlt b hb))]; exact (hf b hb).1
 done:=by
  intro X hP hw hK hc i pins s σ H E I hf st hg
  subst hP hw hK
  refine zz fun P_ k_=>?_
  obtain ⟨xs,hq,hx⟩:=hg
  obtain ⟨its,rv,p,hz⟩:=I.list hq
  obtain ⟨f0,f1,f2,f3,f4,f5⟩:=hf it (by simp)
  obtain ⟨⟨old,he⟩,hit⟩:=st
  refine k_ ?_
  have hl:=rv.length
  exact wpAny_pyNext_enum_end (I.ok.hd hc) he hit p.isList (by simp; (clear hne hc I hf hq rv p hz f0 f1 f2 f3 f4 f5 hit he; omega)) fun h' eb=>⟨rfl,I.turned (t':=s.toks) (fun b o hb e=>eb b o hb e) f0 f1 f3 f4 f5⟩
 self:=fun _ _ _ _ _ st h=>let ⟨_,he⟩:=st.1; wpAny_pyIter_enum he h
noncomputable def iEnum (K:ze) (ta:TA):TI:=fun σ H R=>ta σ H fun vs H1=>∃ a,vs=[.ref a]∧(∃ xs,SqL K H1 a xs)∧R (Ite K a) H1
theorem pi_enum {a : Expr} {ta : TA} {p pos tp : Pos} {elts : List Expr} {x1} (hg : Gl X "enumerate") (hm : X.mg "enumerate" = none) (hv : yr "enumerate" = some (.type "enumerate")) (ha : PA X [a] ta) (hs : zh [a] X.env = [(false, eval a X.env)]) :
  PI X (.Tuple elts x1 tp) (.Call (.Name "enumerate" p) [a] [] pos) (iEnum X.K ta) := by
 intro pins s σ H R I h
 refine Call_ (gM I hg hm hv (vh (thn (ha pos pins s σ H _ I h) fun us s1 hh_=>?_) hs rfl))
 obtain ⟨vs,H1,I1,r1,q1⟩:=hh_
 obtain ⟨l,e,⟨xs,hq⟩,q⟩:=q1
 subst e
 obtain ⟨u,rfl,ru⟩:=r1.one
 subst ru
 obtain ⟨its,rv,pl,hz⟩:=I1.list hq
 refine call_enumerate_list pl.isList fun h' he hit hz' hk=>?_
 refine wpAny_pyIter_enum (s:={ s1 with heap:=h' }) he ?_
 have I2:Inv X pins σ H1 { s1 with heap:=h' }:=I1.kept (t':=s1.toks) hk
 have fr:∀ b∈[s1.heap.objs.size+1,s1.heap.objs.size],FpOk X pins H1 b:=fun b hb=>by
  have z:b=s1.heap.objs.size+1∨b=s1.heap.objs.size:=by simpa using hb
  have hle:s1.heap.objs.size≤b:=by (clear hg hm hv ha hs I h I1 q hq r1 rv pl hz he hit hz' hk I2 hb; omega)
  exact I1.fpOk hle (I1.hok.fresh hle)
 exact ⟨_,_,_,Ite X.K l,H1,rfl,I2,turn_enum l _ _ (Nat.succ_ne_self _),⟨⟨_,he⟩,hit⟩,fr,q⟩
theorem op_isB:OpR X (wg .Is) (fun x y H Q=>∃ i c,x=.int i∧y=.bl c∧Q (.bl false) H):=by
 intro pins s σ H x y v u Q I rx ry h
 obtain ⟨i,c,rfl,rfl,q⟩:=h
 subst ry
 obtain ⟨t,rfl⟩:=rx
 exact zr ⟨.bl false,H,I,rfl,q⟩
end
end L2
namespace Vi
open PySem PySem.Spec PyProof.Rows L2
section
variable {X:Cx} {cl:Nat→Addr} {M:Tab} {a b c e o:Expr} {es rest:List Expr} {pos p p2 apos cpos:Pos} {a' b' c' e' o':E} {es':List E}
theorem g_isB {c:Bool} {j} (ha:GE X cl M a a'):GE X cl M (.Compare a [.Is] [.Constant (.bool c) j p2] pos) (.isB a' c)∧GT X cl M (.Compare a [.Is] [.Constant (.bool c) j p2] pos) (.isB a' c):=by
 have key:∀ ρ d k,runE M (.isB a' c) ρ=.ok (d,k)→∃ i kx,runE M a' ρ=.ok (.int i,kx)∧d=.bl false∧k=.sto []:=fun ρ d k h=>by
  rw [rE_isB] at h
  obtain ⟨⟨x,kx⟩,h1,h⟩:=R.bind_ok h
  cases x with
  | int i =>
   simp only [R.pure_eq,R.ok.injEq,u3] at h
   exact ⟨i,kx,h1,h.1.symm,h.2.symm⟩
  | _=>injection h
 constructor
 ·intro ρ d k h
  obtain ⟨i,kx,h1,rfl,rfl⟩:=key ρ d k h
  exact e_cmp op_isB (by rfl) (ha ρ _ kx h1) (e_bl (ρ:=ρ)) fun x y H Q f g r1 r2 q=>⟨i,c,r1.1,r2.1,q⟩
 ·intro ρ d k t h ht
  obtain ⟨i,kx,h1,rfl,rfl⟩:=key ρ d k h
  (injection ht with ht; subst ht)
  exact t_cmp op_isB (by rfl) (ha ρ _ kx h1) (e_bl (ρ:=ρ)) fun x y H Q f g r1 r2 q=>⟨i,c,r1.1,r2.1,q⟩
theorem bi_list {ds : List D} {z : D} (h : biD .list ds = .ok z) : BiR X cl (.type "list") ds z := by
 intro pins s σ H xs us Q I r hh_
 obtain ⟨fp,rl,q⟩:=hh_
 obtain ⟨d,rfl⟩:=fH h
 obtain ⟨x,f,ex,rx⟩:=rep1 rl
 have fin : ∀ {l : List D} {vs : List V} {g : List Addr} {p : Addr}, immL l = true → RepL cl H l vs g → x = .ref p → (SqL X.K H p vs ∨ SqT X.K H p vs) → z = .lst l → wpAny (model X.prog X.w) X.A (call (.type "list") us) (EP X pins σ Q) X.xe s := fun {l vs g p} him hl e hs ez => by
  refine call_list_of pins s σ H xs us Q I r ⟨p,vs,by rw [ex,e],hs,fun q1 hq=>?_⟩
  have eg:=hl.imm him
  subst eg
  have sn:=Same.new (o:=HO.lst vs) hq
  refine q (.ref q1) _ [q1] sn ?_ (cw.one hq (fI (o:=.lst vs) (by intro _ _ z; injection z)))
  rw [ez]
  unfold Rep
  exact ⟨q1,_,[],rfl,rfl,hl.same sn,.inl ai⟩
 cases d with
 | lst l =>
  rw [gZ] at h
  split at h
  ·rename_i him
   (injection h with h; subst h)
   obtain ⟨p,vs,g,e,hs,hl⟩:=bz (K:=X.K) rx
   exact fin him hl e (.inl hs) rfl
  ·injection h
 | tup l =>
  rw [biD_20] at h
  split at h
  ·rename_i him
   (injection h with h; subst h)
   obtain ⟨p,vs,e,hs,hl⟩:=cJ (K:=X.K) rx
   exact fin him hl e (.inr hs) rfl
  ·injection h
 | _=>injection h
theorem bi_tuple {ds : List D} {z : D} (h : biD .tuple ds = .ok z) : BiR X cl (.type "tuple") ds z := by
 intro pins s σ H xs us Q I r hh_
 obtain ⟨fp,rl,q⟩:=hh_
 obtain ⟨d,rfl⟩:=fH h
 obtain ⟨x,f,ex,rx⟩:=rep1 rl
 cases d with
 | lst l =>
  rw [gY] at h
  split at h
  ·rename_i him
   (injection h with h; subst h)
   obtain ⟨p,vs,g,e,hs,hl⟩:=bz (K:=X.K) rx
   refine jF pins s σ H xs us Q I r ⟨p,vs,by rw [ex,e],.inl ⟨hs,fun q1 hq=>?_⟩⟩
   have eg:=hl.imm him
   subst eg
   have sn:=Same.new (o:=HO.tup vs) hq
   refine q (.ref q1) _ [] sn ?_ cw.nil
   unfold Rep
   exact ⟨q1,_,rfl,ai,hl.same sn⟩
  ·injection h
 | _=>injection h
theorem gT:∀ (l:List D) (k:Int),(fY k l).length=l.length:=by
 intro x_0
 induction x_0 with
 | nil =>
  intro _
  exact rfl
 | cons d r ih_ =>
  intro k
  show (fY (k+1) r).length+1=r.length+1; rw [ih_]
theorem enumD_get:∀ {l:List D} {k:Int} {i:Nat} {d:D},l[i]?=some d→(fY k l)[i]?=some (.tup [.int (k+i),d]):=by
 intro x_0
 induction x_0 with
 | nil =>
  intro _ _ _ h
  simp at h
 | cons x r ih_ =>
  intro k x_2
  cases x_2 with
  | zero =>
   intro d h
   (injection h with h; subst h); show some _=_; simp
  | succ i =>
   intro d h
   show (fY (k+1) r)[i]?=_
   rw [ih_ (show r[i]?=some d from h)]
   congr 4
   (clear h; omega)
theorem gi_enum {elts : List Expr} {x1} {tp : Pos} (hg : Gl X "enumerate") (hm : X.mg "enumerate" = none) (hv : yr "enumerate" = some (.type "enumerate")) (hs : zh [a] X.env = [(false, eval a X.env)]) (ha : GE X cl M a a') :
  GI X cl M (.Tuple elts x1 tp) (.Call (.Name "enumerate" p) [a] [] pos) .enum [a'] := fun ρ xs k hr => by
 rw [rI_1] at hr
 obtain ⟨⟨x,kx⟩,g1,hr⟩:=R.bind_ok hr
 simp only [eV,dS,R.ok_bind] at hr
 cases x with
 | lst l =>
  rw [jn] at hr
  by_cases him:immL l=true
  ·rw [if_pos him] at hr
   obtain ⟨rfl,rfl⟩:=okp hr
   refine pi_imp (pi_enum hg hm hv (bc (ha ρ _ kx g1) bT hs) hs) fun σ H R hh_=>?_
   obtain ⟨H0,F,S,q⟩:=hh_
   refine ⟨H0,F,S,fun v H1 f1 s1 r1 q1=>?_⟩
   obtain ⟨b,ws,f',eb,ef',r,hpp⟩:=r1
   have eg:=r.imm him
   subst eg
   have rd0:SqL X.K H1 b ws:=by
    rcases hpp with h | ⟨o,h⟩
    ·exact .inl (.inl h)
    ·exact .inl (.inr ⟨o,h⟩)
   refine ⟨b,by rw [eb],⟨ws,rd0⟩,q _ H1 f1 s1 q1 fun B hB tB=>?_⟩
   have rd:∀ {H':Hp},Same B H'→SqL X.K H' b ws:=fun {H'} s=>by
    have e1:B b=H1 b:=hB b (by rw [ef']; exact za)
    rcases hpp with h | ⟨o,h⟩
    ·exact .inl (.inl (s b _ (e1.trans h)))
    ·exact .inl (.inr ⟨o,s b _ (e1.trans h)⟩)
   refine ⟨fun i H' s hlt=>?_,fun i H' x H'' s y hlt=>?_,fun i H' s hle=>⟨ws,rd s,by rw [r.len]; rw [gT] at hle; exact hle⟩⟩
   ·rw [gT] at hlt
    have hv:i < ws.length:=by rw [r.len]; exact hlt
    exact ⟨ws,ws[i],rd s,by rw [z9 hv]⟩
   ·rw [gT] at hlt
    obtain ⟨q1,y1,hq1,ex,eH,hy⟩:=y
    obtain ⟨v2,fv,e1,e2,e3⟩:=r.get (z9 hlt)
    have e4:=hy ws (rd s)
    rw [e4] at e1
    (injection e1 with e1; subst e1)
    have ef0:fv=[]:=by
     cases fv with
     | nil=>rfl
     | cons z _=>exact absurd (e3 z za) xg
    subst ef0
    subst eH
    have sn:=Same.new (o:=HO.tup [.int i,y1]) hq1
    have ek:Keep [] H1 H':=⟨fun b hb=>absurd hb xg,fun b vs h=>s b _ (tB b vs h)⟩
    refine ⟨sn,.tup [.int (0+i),l[i]],[],enumD_get (z9 hlt), ?_,fun b hb=>absurd hb xg⟩
    unfold Rep
    refine ⟨q1,[.int i,y1],ex,ai, ?_⟩
    unfold RepL
    refine ⟨_,_,[],[],rfl,rfl,⟨by simp,rfl⟩, ?_⟩
    unfold RepL
    exact ⟨_,_,[],[],rfl,rfl,(e2.keep ek).same sn,⟨rfl,rfl⟩⟩
  ·rw [if_neg him] at hr; injection hr
 | _=>injection hr
end
end Vi
namespace L2
open PySem PySem.Spec PyProof.Rows
section
open PySem.AutoSeq1 (wpAny_loadPart')
theorem fW (l:Addr) (items:Array Value) (n:Nat) (b:Addr) (items2:Array Value) (n2:Nat) (dd:Option Addr) (sl:Array (Option Value)) (hs0:¬(!items.isEmpty && wc (items.size+items2.size))=true) (hs1:items.size≤y4) (hs2:items.size+items2.size≤y4+1) :
  Meets (Builtin.«list.extend» ⟨[.ref l, .ref b], []⟩) (fun _ R s => s.heap.get? l = some { cls := .type "list", dict := none, data := .seq items n, slots := #[] } ∧ s.heap.get? b = some { cls := .type "tuple", dict := dd, data := .seq items2 n2, slots := sl } ∧ R (.ok (.ret qu)) { s with heap := s.heap.update l (no fun x => x ++ items2), toks := s.toks }) :=
 .of_wp fun prog w A R s h=>by
  obtain ⟨hp,g,d,tk,os⟩:=s; obtain ⟨hl,hb,h⟩:=h; have f1:=@AutoSeq1.idx_int; have f2:=AutoSeq1.sub_tuple_tuple; have f3:=AutoSeq1.sub_list_list; have f4:=AutoSeq1.sub_tuple_list; have f5:=AutoSeq1.sub_list_tuple;
  have hz':(items++items2).size≤y4+1:=by rw [Array.size_append]; exact hs2
  wp_walk using (oh hl rfl (hz:=hs1) (_hz':=hz')),wpAny_loadPart' hl,wpAny_loadPart' hb; exact ⟨_,rfl,h⟩
end
section
variable {X:Cx}
noncomputable def rExt (K:ze):V→List V→Hp→VK→Prop:=fun x vs H Q=>∃ l b xs zs,x=.ref l∧vs=[.ref b]∧H l=some (.lst xs)∧(H b=some (.lst zs)∨SqT K H b zs)∧xs.length+zs.length≤y4∧Q .non (upd H l (.lst (xs++zs)))
theorem mt_ext : MtM X "list.extend" (rExt X.K) := by
 intro pins s σ H x vs v us Q I rx rv h
 obtain ⟨l,b,xs,zs,ex,ev,hH,hB,hz,q⟩:=h
 rcases hB with hB | hB
 ·exact mt_extend pins s σ H x vs v us Q I rx rv ⟨l,b,xs,zs,ex,ev,hH,hB,hz,q⟩
 ·subst ex; subst ev
  subst rx
  obtain ⟨u,rfl,ru⟩:=rv.one
  subst ru
  obtain ⟨z,its,n,r,hl,e⟩:=I.lstM hH
  obtain ⟨its2,r2,ht,hz2⟩:=I.tuple hB
  have hl2:=r2.length
  obtain ⟨⟨cls,dd,data,sl⟩,ho,hc,n2,hd⟩:=id ht
  simp only at hc hd
  subst hc hd
  have hsz:its.toArray.size+its2.toArray.size≤y4:=by rw [zn,zn]; (clear I hH q hB rv z r e r2 ht hz2 ho; omega)
  have hlong:¬ (!its.toArray.isEmpty && wc (its.toArray.size+its2.toArray.size))=true:=by
   rw [notLongL hsz,nv]
   exact y9
  refine pq F.slot_list_extend ⟨_,e,rfl⟩ F.entry_list_extend (F.args_list_extend_2 _ _)
   (fW l its.toArray n b its2.toArray n2 dd sl hlong (by rw [zn]; exact z5 (yc _ _) ‹_›) (by exact we ‹_›)) ⟨e,ho, ?_⟩
  refine ⟨.non,_,I.lset (its':=its++its2) hH e (by simp) (r.append r2) ?_,rfl,q⟩
  rw [zl]
  assumption
end
end L2
namespace Vi
open PySem PySem.Spec PyProof.Rows L2
section
variable {X:Cx} {cl:Nat→Addr} {M:Tab} {a b c e o:Expr} {es rest:List Expr} {pos p p2 apos cpos spos:Pos} {a' b' c' e' o':E} {es':List E} {st:Stmt}
theorem RepL.split {H:Hp}:∀ {l m:List D} {vs:List V} {f:List Addr},RepL cl H (l++m) vs f→∃ v1 v2 f1 f2,vs=v1++v2∧f=f1++f2∧RepL cl H l v1 f1∧RepL cl H m v2 f2:=by
 intro x_0
 induction x_0 with
 | nil =>
  intro m vs f h
  exact ⟨[],vs,[],f,rfl,rfl,⟨rfl,rfl⟩,h⟩
 | cons d l ih_ =>
  intro m vs f h
  rw [List.cons_append] at h
  refine zz fun P_ k_=>?_
  obtain ⟨v,vr,g1,g2,e,ef,r1,r2⟩:=h
  obtain ⟨v1,v2,f1,f2,e1,e2,h1,h2⟩:=ih_ r2
  refine k_ ?_
  refine ⟨v::v1,v2,g1++f1,f2,by rw [e,e1]; rfl,by rw [ef,e2,wy], ?_,h2⟩
  unfold RepL
  exact ⟨v,v1,g1,f1,rfl,rfl,r1,h1⟩
set_option tactic.hygienic true in
theorem gs_pop {i j : Nat} {x : Str} {pos' : Pos} (hN : X.N.Nodup) (hi : X.N[i]? = some x) (hx : Loc X.env.scope x) (hs : ug e (some (.Name x pos')) pos.line X.env = pure false) (hf : X.fn x = true ∨ X.env.scope.names.lookup x = some .local) (he : PE X e (tBM0 X.K "list" rPop (tVar j))) :
  GS X cl M (.Assign [.Name x pos'] e pos) (.pop i j):=fun ρ=>by
 rw [rS_pop]
 split
 ·rename_i l hl
  split
  ·rename_i d hd
   split
   ·rename_i hc
    have hl:=dX hl
    refine cz (ps_set hN hi hx he hs hf) fun D σ H hh_=>?_
    refine zz fun P_ k_=>?_
    obtain ⟨H0,F,S,q⟩:=hh_
    obtain ⟨a,vs,f,hv,ha,eF,r⟩:=S.lst hl
    have el:l=l.dropLast++[d]:=by
     have hne:l≠[]:=fun z=>by rw [z] at hd; injection hd
     rw [List.getLast?_eq_some_getLast hne] at hd
     (injection hd with hd; subst hd)
     exact (List.dropLast_concat_getLast hne).symm
    have r':=r
    rw [el] at r'
    obtain ⟨v1,v2,f1,f2,e1,e2,r1,r2⟩:=r'.split
    obtain ⟨y,fy,e3,ry⟩:=rep1 r2
    have rl2:=r2
    obtain ⟨y',vr,g1,g2,e4,e5,ry',rn⟩:=rl2
    refine k_ ?_
    have eg:=ry'.imm hc.1
    have ef2:f2=[]:=by rw [e5,eg,rn.2]; rfl
    subst ef2
    rw [xf] at e2
    subst e2
    have efy:=ry.imm hc.1
    subst efy
    have evs:vs.dropLast=v1:=by rw [e1,e3]; simp
    have nodF:(a::f).Nodup:=eF ▸ (S.own j _ hl).1
    obtain ⟨F',S'⟩:=mut_list (l':=l.dropLast) (ws:=vs.dropLast) S hl hv ha eF (f':=f) (fun _ h=>h) (y0.mp nodF).2 (by rw [evs]; exact r1)
    have ry2:Rep cl (upd H a (.lst vs.dropLast)) d y []:=ry.keep ⟨fun b hb=>absurd hb xg,fun b us z=>by rw [ah (fun w=>by rw [w,ha] at z; (injection z with z; injection z))]; exact z⟩
    obtain ⟨F2,S2⟩:=S'.setImm (i:=i) ry2 hc.1
    refine ⟨.ref a,hv,.inl ⟨rfl,vs,.inl (.inl ha)⟩,a,vs,y,rfl,rfl,ha,by rw [e1,e3]; simp, ?_⟩
    exact q _ _ F2 S2 fun k hk=>yu fun z=>hk (by rw [z]; exact ye.mpr rfl)
   ·exact bt
  ·exact bt
 ·exact bt
set_option tactic.hygienic true in
theorem gs_ext {i : Nat} (h : ∀ {te : TE}, PE X e te → PS X st (tDrop (tBM X.K "list" (rExt X.K) (tVar i) (tCons te tNil)))) (he : GE X cl M e e') : GS X cl M st (.ext i e') := fun ρ => by
 rw [rS_ext]
 cases hr:runE M e' ρ with
 | ex z=>exact s_ex
 | bad=>exact bt
 | ok q =>
  obtain ⟨d,k⟩:=q
  simp only [ofR]
  split
  ·rename_i l m hl hm
   split
   ·rename_i hc
    have hl:=dX hl
    refine cz (h (he ρ d k hr)) fun D σ H hh_=>?_
    obtain ⟨H0,F,S,q⟩:=hh_
    obtain ⟨a,vs,f,hv,ha,eF,r⟩:=S.lst hl
    refine ⟨.ref a,hv,.inl ⟨rfl,vs,.inl (.inl ha)⟩,H0,F,S,fun y H1 g s1 r1 k1=>?_⟩
    have S1:=S.step s1
    have ha1:=s1 a _ ha
    have src:∃ b zs,y=.ref b∧(H1 b=some (.lst zs)∨SqT X.K H1 b zs)∧RepL cl H1 m zs []:=by
     cases d with
     | tup t =>
      (injection hm with hm; subst hm)
      obtain ⟨b,zs,e,hs,rl⟩:=cJ (K:=X.K) r1
      have eg:=rl.imm hc.1
      subst eg
      exact ⟨b,zs,e,.inr hs,rl⟩
     | lst t =>
      cases k with
      | sto js =>
       cases js with
       | nil =>
        (injection hm with hm; subst hm)
        obtain ⟨b,zs,f',e,ef,rl,hb⟩:=r1
        have eg:=rl.imm hc.1
        subst eg
        refine ⟨b,zs,e,.inl ?_,rl⟩
        rcases hb with hb | ⟨ob,hb⟩
        ·exact hb
        ·exact absurd hb (k1.2.2.2 b (by rw [ef]; exact za) ob _)
       | cons _ _=>injection hm
      | old=>injection hm
      | bor=>injection hm
     | _=>injection hm
    obtain ⟨b,zs,ey,hb,rm⟩:=src
    subst ey
    have nodF:(a::f).Nodup:=eF ▸ (S.own i _ hl).1
    obtain ⟨F',S'⟩:=mut_list (l':=l++m) (ws:=vs++zs) S1 hl hv ha1 eF (f':=f) (fun _ h=>h) (y0.mp nodF).2 (by have:=(r.same s1).append rm; rwa [xf] at this)
    exact ⟨a,b,vs,zs,rfl,rfl,ha1,hb,by rw [r.len,rm.len]; exact fi hc.2,q σ _ F' S' fun _ _=>rfl⟩
   ·exact bt
  ·exact bt
set_option tactic.hygienic true in
theorem flats_rep {H:Hp}:∀ {L:List D} {ls:List (List D)} {vs:List V} {f:List Addr},fX L=some ls→RepL cl H L vs f→vs=f.map V.ref∧f.length=ls.length∧∀ (k:Nat) (p:Addr) (l:List D),f[k]?=some p→ls[k]?=some l→immL l=true∧∃ ws,(H p=some (.lst ws)∨∃ o,H p=some (.frz o (.lst ws)))∧RepL cl H l ws []:=by
 intro x_0
 induction x_0 with
 | nil =>
  intro ls vs f h r
  (injection h with h; subst h)
  obtain ⟨e1,e2⟩:=r
  subst e1; subst e2
  exact ⟨rfl,rfl,fun k p l h=>by simp at h⟩
 | cons d L ih_ =>
  intro ls vs f h r
  refine zz fun P_ k_=>?_
  obtain ⟨v,vr,g1,g2,e,ef,r1,r2⟩:=r
  refine k_ ?_
  cases d with
  | lst l =>
   simp only [fX] at h
   split at h
   ·rename_i ms hm
    split at h
    ·rename_i him
     (injection h with h; subst h)
     refine zz fun P_ k_=>?_
     obtain ⟨h1,h2,h3⟩:=ih_ hm r2
     obtain ⟨p,ws,g,ev,eg,rl,hp⟩:=r1
     refine k_ ?_
     have e0:=rl.imm him
     subst e0; subst ev; subst eg; subst ef; subst e
     refine ⟨by rw [h1]; rfl,by simp [h2],fun k q m hk hm'=>?_⟩
     cases k with
     | zero =>
      (injection hk with hk; subst hk); (injection hm' with hm'; subst hm')
      exact ⟨him,ws,hp,rl⟩
     | succ k=>exact h3 k q m hk hm'
    ·injection h
   ·injection h
  | _=>injection h
theorem repL_of {H':Hp} {g:List D→List D}:∀ {ls:List (List D)} {f:List Addr},f.length=ls.length→(∀ (k:Nat) (p:Addr) (l:List D),f[k]?=some p→ls[k]?=some l→∃ ws,H' p=some (.lst ws)∧RepL cl H' (g l) ws [])→RepL cl H' (ls.map fun l=>.lst (g l)) (f.map V.ref) f:=by
 intro x_0
 induction x_0 with
 | nil =>
  intro x_1
  cases x_1 with
  | nil =>
   intro _ _
   exact ⟨rfl,rfl⟩
  | cons _ _ =>
   intro h _
   simp at h
 | cons l ls ih_ =>
  intro x_1
  cases x_1 with
  | nil =>
   intro h _
   simp at h
  | cons p f =>
   intro h hh
   obtain ⟨ws,h1,h2⟩:=hh 0 p l rfl rfl
   have rest:=ih_ (by simpa using h) fun k q m h1 h2=>hh (k+1) q m h1 h2
   rw [zc,zc]
   unfold RepL
   refine ⟨.ref p,f.map V.ref,[p],f,rfl,rfl, ?_,rest⟩
   unfold Rep
   exact ⟨p,ws,[],rfl,rfl,h2,.inl h1⟩
inductive EI (f:List Addr) (t:Nat) (σ:L2.St) (H:Hp) (gV:List V→List V) (n:Nat) (σ':L2.St) (H':Hp):Prop
 | mk (hlσ:σ'.length=σ.length) (fr:∀ j,j≠t→σ'[j]?=σ[j]?) (off:∀ b,b∉f→H' b=H b)
  (later:∀ (k:Nat) (p:Addr),f[k]?=some p→n≤k→H' p=H p) (earlier:∀ (k:Nat) (p:Addr) (ws:List V),f[k]?=some p→k < n→H p=some (.lst ws)→H' p=some (.lst (gV ws)))
theorem s_each {t i : Nat} {L : List D} {ls : List (List D)} {ρ : Env} {rr : V → List V → Hp → VK → Prop} {gD : List D → List D} {gV : List V → List V} (h : PS X st (tFor (iList X.K (tVar i)) (fA t) (tDrop (tBM0 X.K "list" rr (tVar t)))))
  (hr:∀ p ws H Q,H p=some (.lst ws)→Q .non (upd H p (.lst (gV ws)))→rr (.ref p) [] H Q) (hg:∀ {H:Hp} {l:List D} {ws:List V},immL l=true→RepL cl H l ws []→RepL cl H (gD l) (gV ws) [])
  (hl:ρ[i]?=some (some (.lst L,true))) (hf:fX L=some ls) (hc:t≠i∧t < ρ.length):PS X st (tSd cl ρ [t] (.nx ((ρ.set i (some (.lst (ls.map fun l=>.lst (gD l)),true))).set t none))) :=
 cz h fun D σ H ⟨H0,F,S,q⟩=>by
  refine zz fun P_ k_=>?_
  obtain ⟨a,vs,f,hv,ha,eF,r⟩:=S.lst hl
  obtain ⟨ev,hlen,hit⟩:=flats_rep hf r
  refine k_ ?_
  have own:=(S.own i _ hl).2
  have nodF:(a::f).Nodup:=eF ▸ (S.own i _ hl).1
  have naf:=(y0.mp nodF).1
  have nf:=(y0.mp nodF).2
  have at_:∀ (k:Nat) (p:Addr),f[k]?=some p→∃ l ws,ls[k]?=some l∧immL l=true∧H p=some (.lst ws)∧RepL cl H l ws []:=fun k p hk=>by
   have hk':k < ls.length:=by rw [← hlen]; exact (yi.mp hk).1
   refine zz fun P_ k_=>?_
   obtain ⟨him,ws,h1,h2⟩:=hit k p ls[k] hk (z9 hk')
   refine k_ ?_
   refine ⟨ls[k],ws,z9 hk',him, ?_,h2⟩
   rcases h1 with h1 | ⟨ob,h1⟩
   ·exact h1
   ·exact absurd h1 ((own p (by rw [eF]; exact z8 _ (o5 hk))).2 ob _)
  have inj:∀ (j k:Nat) (p:Addr),f[j]?=some p→f[k]?=some p→j=k:=fun j k p hj hk=>by
   obtain ⟨h1,e1⟩:=yi.mp hj
   obtain ⟨h2,e2⟩:=yi.mp hk
   exact (List.getElem_inj nf).mp (e1.trans e2.symm)
  refine ⟨.ref a,hv,a,rfl,⟨vs,.inl (.inl ha)⟩,fun n m σ' H'=>m=f.length - n∧n≤f.length∧EI f t σ H gV n σ' H',
   ⟨f.length,rfl,xc _,rfl,fun _ _=>rfl,fun _ _=>rfl,fun _ _ _ _=>rfl,fun k _ _ _ h=>absurd h (wo k)⟩, ?_⟩
  intro n m σ' H' hh_
  refine zz fun P_ k_=>?_
  obtain ⟨em,hn,hh_⟩:=hh_
  obtain ⟨hlσ,fr,off,later,earlier⟩:=hh_
  refine k_ ?_
  subst em
  have ha':H' a=some (.lst vs):=(off a naf).trans ha
  by_cases hlt:n < f.length
  ·obtain ⟨p,hp⟩:∃ p,f[n]?=some p:=⟨f[n],z9 hlt⟩
   have hvn:vs[n]?=some (.ref p):=by rw [ev,yn,hp]; rfl
   refine .inr ⟨⟨vs,.ref p,.inl (.inl ha'),hvn⟩,EI f t σ H gV (n+1),fun σ2 H2 h2=>⟨f.length - (n+1),by (clear h hr hg hl hf hc S q hv ha eF r ev hlen hit own nodF naf nf at_ inj hn hlσ fr off later earlier ha' hp hvn h2; omega),rfl,hlt,h2⟩,fun x H2 y=>?_⟩
   obtain ⟨eH,y⟩:=y
   subst eH
   have ex:=y vs (.inl (.inl ha'))
   rw [hvn] at ex
   (injection ex with ex; subst ex)
   refine zz fun P_ k_=>?_
   obtain ⟨l,ws,hl',him,hpw,rl⟩:=at_ n p hp
   refine k_ ?_
   have hp':H2 p=some (.lst ws):=(later n p hp (zf _)).trans hpw
   have hts:t < σ'.length:=by rw [hlσ,S.len]; exact hc.2
   refine ⟨.ref p,by rw [d0 hts,if_pos rfl],.inl ⟨rfl,ws,.inl (.inl hp')⟩,hr p ws H2 _ hp' ?_⟩
   refine ⟨by simp [hlσ],fun j hj=>by rw [yu (wt hj)]; exact fr j hj,fun b hb=>?_,fun k p2 hk hnk=>?_,fun k p2 ws2 hk hkn hw=>?_⟩
   ·rw [ah (fun z=>hb (by rw [z]; exact o5 hp))]; exact off b hb
   ·have:p2≠p:=fun z=>by rw [z] at hk; have:=inj k n p hk hp; (clear h hr hg hl hf hc S q hv ha eF r ev hlen hit own nodF naf nf at_ inj hn hlσ fr hlt hp hvn off later earlier ha' y hl' him hpw rl hp' hts hk z; omega)
    rw [ah this]; exact later k p2 hk (by exact xn ‹_›)
   ·by_cases hkn':k=n
    ·subst hkn'
     rw [hp] at hk
     (injection hk with hk; subst hk)
     rw [hpw] at hw
     (injection hw with hw; injection hw with hw; subst hw)
     exact ai
    ·have:p2≠p:=fun z=>by rw [z] at hk; exact hkn' (inj k n p hk hp)
     rw [ah this]; exact earlier k p2 ws2 hk (by (clear h hr hg hl hf hc S q hv ha eF r ev hlen hit own nodF naf nf at_ inj hn hlσ fr hlt hp hvn off later earlier ha' y hl' him hpw rl hp' hts hk hw this; omega)) hw
  ·have en:n=f.length:=by (clear h hr hg hl hf hc S q hv ha eF r ev hlen hit own nodF naf nf at_ inj hlσ fr off later earlier ha'; omega)
   subst en
   refine .inl ⟨⟨vs,.inl (.inl ha'),by rw [ev]; simp⟩, ?_⟩
   have tups:∀ b us,H b=some (.tup us)→H' b=some (.tup us):=fun b us z=>by
    rw [off b fun hb=>?_]; exact z
    refine zz fun P_ k_=>?_
    obtain ⟨k,hk,e⟩:=qg hb
    obtain ⟨l,ws,_,_,hpw,_⟩:=at_ k b (yi.mpr ⟨hk,e⟩)
    refine k_ ?_
    rw [hpw] at z; (injection z with z; injection z)
   have news:RepL cl H' (ls.map fun l=>.lst (gD l)) (f.map V.ref) f:=repL_of hlen fun k p l hk hlk=>by
    refine zz fun P_ k_=>?_
    obtain ⟨l2,ws,h1,him,h2,h3⟩:=at_ k p hk
    refine k_ ?_
    rw [hlk] at h1
    (injection h1 with h1; subst h1)
    exact ⟨gV ws,earlier k p ws hk (yi.mp hk).1 h2,hg him (h3.keep ⟨fun b hb=>absurd hb xg,tups⟩)⟩
   obtain ⟨F',S'⟩:=S.mut (H':=H') (d':=.lst (ls.map fun l=>.lst (gD l))) (fp:=a::f) (is:=[]) hl hv (by simp) (fun _ h=>nomatch h) (by unfold Rep; exact ⟨a,vs,f,rfl,rfl,by rw [ev]; exact news,.inl ha'⟩)
    nodF (fun b hb=>.inl (by rw [eF]; exact hb))
    (fun b hb ob u z=>by
     rcases y6.mp hb with w | w
     ·rw [w,ha'] at z; (injection z with z; injection z)
     ·obtain ⟨k,hk,e⟩:=qg w
      have hk2:=yi.mpr ⟨hk,e⟩
      obtain ⟨l,ws,_,_,hpw,_⟩:=at_ k b hk2
      rw [earlier k b ws hk2 hk hpw] at z; (injection z with z; injection z))
    (fun b hb _=>off b fun z=>hb (by rw [eF]; exact z8 _ z)) tups
   refine q σ' H' F' (SOK.frame (S'.drop [t]) hlσ fun j x hj=>?_) fun j hj=>fr j fun z=>hj (by rw [z]; exact ye.mpr rfl)
   exact fr j fun z=>(cM (is:=[t]) (t:=ρ.set i (some (.lst (ls.map fun l=>.lst (gD l)),true))) hj).2 (by rw [z]; exact ye.mpr rfl)
set_option tactic.hygienic true in
theorem gs_eachRvs {t i : Nat} (h : PS X st (tFor (iList X.K (tVar i)) (fA t) (tDrop (tBM0 X.K "list" rReverse (tVar t))))) : GS X cl M st (.eachRvs t i) := fun ρ => by
 rw [ia]
 split
 ·rename_i l hl
  split
  ·rename_i ls hf
   split
   ·rename_i hc
    exact s_each (gD:=List.reverse) (gV:=List.reverse) h (fun p ws H Q e q=>⟨p,ws,rfl,rfl,e,q⟩) (fun him r=>r.reverse him) (dX hl) hf hc
   ·exact bt
  ·exact bt
 ·exact bt
set_option tactic.hygienic true in
theorem gs_eachClr {t i : Nat} (h : PS X st (tFor (iList X.K (tVar i)) (fA t) (tDrop (tBM0 X.K "list" rClear (tVar t))))) : GS X cl M st (.eachClr t i) := fun ρ => by
 rw [ib]
 split
 ·rename_i l hl
  split
  ·rename_i ls hf
   split
   ·rename_i hc
    exact s_each (gD:=fun _=>[]) (gV:=fun _=>[]) h (fun p ws H Q e q=>⟨p,ws,rfl,rfl,e,q⟩) (fun _ _=>⟨rfl,rfl⟩) (dX hl) hf hc
   ·exact bt
  ·exact bt
 ·exact bt
end
end Vi
namespace L2
open PySem PySem.Spec PyProof.Rows
section
variable {X:Cx} {pins:List (Addr × Obj)} {σ:St} {H:Hp} {s:Shared} {a:Addr} {o:Obj} {kvs:List (Key × V)}
theorem Inv.freeze (I:Inv X pins σ H s) (h:H a=some (.dK kvs)) (e:s.heap.get? a=some o):Inv X pins σ (upd H a (.frz o (.dK kvs))) s:=by
 have ne:∀ b u,H b=some u→(∀ kvs,u ≠ .dK kvs)→b≠a:=fun b u q n z=>by rw [z,h] at q; exact n kvs (yy q).symm
 have nn:∀ b,H b=none→b≠a:=fun b q z=>by rw [z,h] at q; injection q
 have k:=I.un (t':=s.toks) (H':=upd H a (.frz o (.dK kvs))) (h':=s.heap)
  ⟨fun b ob q _ _ _=>q,fun b ob q _ _ _=>⟨ob.slots,q⟩,fun b ob _ n _=>by rw [ah (nn b n)]; exact n,fun b ob q _=>⟨ob,q⟩,fun b xs q=>by rw [ah (ne b _ q fun _ z=>nomatch z)]; exact q,
   fun b ob xs q=>by rw [ah (ne b _ q fun _ z=>nomatch z)]; exact q,fun b ps q=>⟨#[],by rw [ah (ne b _ q fun _ z=>nomatch z),q]; simp⟩⟩
  (fun b u q=>by
   by_cases hb:b=a
   ·subst hb
    rw [ai] at q
    (injection q with q; subst q)
    exact ⟨e,I.hok b _ h⟩
   ·rw [ah hb] at q
    exact (I.hok b u q).stay (fun _ _ _ z=>z) (fun c z=>by rw [ah (ne c _ z fun _ z=>nomatch z)]; exact z) fun c xs z=>by rw [ah (ne c _ z fun _ z=>nomatch z)]; exact z)
 exact k
theorem Inv.thaw (I:Inv X pins σ H s) (h:H a=some (.frz o (.dK kvs))) (nb:∀ ob u,X.H₀ a≠some (.frz ob u)):Inv X pins σ (upd H a (.dK kvs)) s:=by
 have ne:∀ b u,H b=some u→(∀ ob v,u ≠ .frz ob v)→b≠a:=fun b u q n z=>by rw [z,h] at q; exact n _ _ (yy q).symm
 have nn:∀ b,H b=none→b≠a:=fun b q z=>by rw [z,h] at q; injection q
 refine ⟨I.ok,I.os,I.bare,⟨I.base.keep,I.base.slot,fun b ob q n hx=>?_,I.base.there,fun b xs q=>?_,fun b ob u q=>?_,fun b ps q=>?_⟩,I.loc,I.cell, ?_,fun x c q=>?_,fun p hp=>?_,fun b u q=>?_,I.len⟩
 ·have z:=I.base.free b ob q n hx
  rw [ah (nn b z)]; exact z
 ·have z:=I.base.tups b xs q
  rw [ah (ne b _ z fun _ _ z=>nomatch z)]; exact z
 ·have z:=I.base.frzs b ob u q
  rw [ah (fun w=>nb ob u (by rw [← w]; exact q))]; exact z
 ·obtain ⟨m,z⟩:=I.base.tbls b ps q
  exact ⟨m,by rw [ah (ne b _ z fun _ _ z=>nomatch z)]; exact z⟩
 ·rw [ah (nn _ I.free)]; exact I.free
 ·have z:=I.freeC x c q
  rw [ah (nn c z)]; exact z
 ·obtain ⟨p1,p2,p3⟩:=I.pin p hp
  exact ⟨p1,by rw [ah (nn _ p2)]; exact p2,p3⟩
 ·by_cases hb:b=a
  ·subst hb
   rw [ai] at q
   (injection q with q; subst q)
   exact (I.hok b _ h).2
  ·rw [ah hb] at q
   exact (I.hok b u q).stay (fun _ _ _ z=>z) (fun c z=>by rw [ah (ne c _ z fun _ _ z=>nomatch z)]; exact z) fun c xs z=>by rw [ah (ne c _ z fun _ _ z=>nomatch z)]; exact z
noncomputable def Itd (a:Addr) (o:Obj) (kvs:List (Key × V)):It :=
 ⟨fun i H=>H a=some (.frz o (.dK kvs))∧i < kvs.length,fun i H x H'=>H'=H∧∃ k v,kvs[i]?=some (k,v)∧x=kV k,fun i H=>H a=some (.frz o (.dK kvs))∧kvs.length≤i⟩
theorem dict_at {P:yp} {w:World} {h:Heap} {es:Array DictEntry} {ep:Nat} (ok:HOk P w H h) (q:H a=some (.frz o (.dK kvs))) (ho:o.data=.dict es ep):∃ vs,KV kvs vs∧h.DictAt (bf P w) a vs ep:=by
 obtain ⟨e,_,_,vs,r,o2,es2,ep2,e2,x2,d2,z⟩:=ok a _ q
 rw [e] at e2
 (injection e2 with e2; subst e2)
 rw [ho] at d2
 (injection d2 with d2; subst d2)
 exact ⟨vs,r,o,es,e,x2,ho,z⟩
theorem turn_dict {P:yp} {w:World} {K:ze} {tg:Expr} {es:Array DictEntry} {ep:Nat} (a it:Addr) (o:Obj) (kvs:List (Key × V)) (ho:o.data=.dict es ep):Turn P w K tg (Itd a o kvs) [it] it (fun i h=>h.IsKeyIter it a i kvs.length ep) where
 mem:=by simp
 obj:=fun i h st b hb=>by
  have e:b=it:=by simpa using hb
  subst e
  refine zz fun P_ k_=>?_
  obtain ⟨o,e,c,d⟩:=st
  refine k_ ?_
  exact ⟨o,e,fun v z=>by rw [d] at z; injection z⟩
 keep:=fun i h h' st k=>st.at fun o e=>k it (by simp) o e
 item:=by
  intro X hP hw hK hc i pins s σ H E I hf st hg
  subst hP hw hK
  refine zz fun P_ k_=>?_
  obtain ⟨hq,hi⟩:=hg
  obtain ⟨vs,r,dd⟩:=dict_at I.hok hq ho
  have hl:=r.length
  obtain ⟨f0,f1,f2,f3,f4,f5⟩:=hf it (by simp)
  refine k_ ?_
  have hi':i < vs.length:=by (clear ho hc I hf st hq r dd f0 f1 f2 f3 f4 f5; omega)
  have hx:vs[i]?=some (vs[i].1,vs[i].2):=z9 hi'
  have hk:kvs[i]?=some (vs[i].1,kvs[i].2):=by
   have e:=r.keys
   have e1:(kvs.map (·.1))[i]?=(vs.map (·.1))[i]?:=by rw [e]
   rw [yn,yn,z9 hi,z9 hi'] at e1
   have e2:kvs[i].1=vs[i].1:=yy e1
   rw [z9 hi,← e2]
  refine wpAny_pyNext_dict_item (hl ▸ st) dd hx fun key h' hkey st' sb=>?_
  have I1:Inv X pins σ H { s with heap:=h' }:=I.turned (t':=s.toks) (fun b o hb e=>(sb.2 b hb).trans e) f0 f1 f3 f4 f5
  refine zz fun P_ k_=>?_
  obtain ⟨o2,e,c,d⟩:=id st'
  refine k_ ?_
  refine ⟨key,rfl,go_of (s:={ s with heap:=h' }) e c d (by decide) ⟨kV vs[i].1,H,I1, ?_,⟨rfl,_,_,hk,rfl⟩,hl ▸ st',fun b hb=>(hf b hb).1⟩⟩
  rcases ba (show keyIs vs[i].1 key=true from hkey) with ⟨n,t,e1,e2⟩ | ⟨x,t,e1,e2⟩
  ·rw [e1,e2]; exact ⟨t,rfl⟩
  ·rw [e1,e2]; exact ⟨t,rfl⟩
 done:=by
  intro X hP hw hK hc i pins s σ H E I hf st hg
  subst hP hw hK
  refine zz fun P_ k_=>?_
  obtain ⟨hq,hi⟩:=hg
  obtain ⟨vs,r,dd⟩:=dict_at I.hok hq ho
  have hl:=r.length
  obtain ⟨f0,f1,f2,f3,f4,f5⟩:=hf it (by simp)
  refine k_ ?_
  exact wpAny_pyNext_dict_end (I.ok.hd hc) (hl ▸ st) dd (by simp; (clear ho hc I hf st hq r dd f0 f1 f2 f3 f4 f5; omega)) fun h' eb=>⟨rfl,I.turned (t':=s.toks) (fun b o hb e=>eb b o hb e) f0 f1 f3 f4 f5⟩
 self:=fun _ _ _ _ _ st h=>wpAny_pyIter_keyiter st h
noncomputable def iDict (tl:TE):TI:=fun σ H R=>tl σ H fun x H1=>∃ a kvs,x=.ref a∧((∃ o,H1 a=some (.frz o (.dK kvs))∧R (Itd a o kvs) H1)∨(H1 a=some (.dK kvs)∧∀ o,R (Itd a o kvs) (upd H1 a (.frz o (.dK kvs)))))
theorem pi_dict {l tg:Expr} {tl:TE} (hl:PE X l tl):PI X tg l (iDict tl):=by
 intro pins s σ H R I h
 refine thn (hl pins s σ H _ I h) fun v s1 hh_=>?_
 refine zz fun P_ k_=>?_
 obtain ⟨x,H1,I1,r1,q1⟩:=hh_
 obtain ⟨a,kvs,e,q⟩:=q1
 refine k_ ?_
 subst e
 subst r1
 have go:∀ {H2:Hp} {o:Obj},Inv X pins σ H2 s1→H2 a=some (.frz o (.dK kvs))→R (Itd a o kvs) H2→wpAny (model X.prog X.w) X.A (pyIter (.ref a)) (PIE X pins σ tg R) X.xe s1:=fun {H2 o} I2 hq q=>by
  refine zz fun P_ k_=>?_
  obtain ⟨e,_,lo,vs,r,o2,es,ep,e2,x2,d2,z⟩:=I2.hok a _ hq
  refine k_ ?_
  rw [e] at e2
  (injection e2 with e2; subst e2)
  have hl:=r.length
  refine wpAny_pyIter_dict lo (show s1.heap.DictAt (bf X.prog X.w) a vs ep from ⟨o,es,e,x2,d2,z⟩) ?_
  refine ⟨s1.heap.objs.size,[s1.heap.objs.size],_,_,H2,rfl,I2.kept (t':=s1.toks) fun b o e=>zb _ e,turn_dict a _ o kvs d2,⟨_,zy _ rfl,rfl,by rw [hl]; rfl⟩,fun b hb=>?_,q⟩
  have e:b=s1.heap.objs.size:=by simpa using hb
  subst e
  exact I2.fpOk (zf _) (I2.hok.fresh (zf _))
 rcases q with ⟨o,hq,q⟩ | ⟨hq,q⟩
 ·exact go I1 hq q
 ·refine zz fun P_ k_=>?_
  obtain ⟨_,_,vs,r,o,es,ep,e,z⟩:=(show bQ X.prog X.w H1 s1.heap a (.dK kvs) from I1.hok a _ hq)
  refine k_ ?_
  exact go (I1.freeze hq e) ai (q o)
noncomputable def tThaw (t:TE):TE:=fun σ H Q=>t σ H fun v H'=>Q v H'∨∃ a kvs o,H' a=some (.frz o (.dK kvs))∧(∀ ob u,H a≠some (.frz ob u))∧Q v (upd H' a (.dK kvs))
theorem pe_thaw {e:Expr} {t:TE} (h:PE X e t):PE X e (tThaw t):=fun pins s σ H Q I q=>thn (h pins s σ H _ I q) fun v s' ⟨x,H',I',r,q⟩=>by
 rcases q with q | ⟨a,kvs,o,hq,nb,q⟩
 ·exact ⟨x,H',I',r,q⟩
 ·exact ⟨x,_,I'.thaw hq (fun ob u z=>nb ob u (I.base.frzs a ob u z)),r,q⟩
theorem ps_thaw {st:Stmt} {t:TE} {i:Nat} (h:PS X st (tAsg t (fA i))):PS X st (tAsg (tThaw t) (fA i)):=fun pins s σ H D I q=>by
 refine thn (h pins s σ H { D with nx:=fun σ' H'=>D.nx σ' H'∨∃ a kvs o,H' a=some (.frz o (.dK kvs))∧(∀ ob u,H a≠some (.frz ob u))∧D.nx σ' (upd H' a (.dK kvs)) } I q) fun f s' z=>?_
 cases f with
 | next =>
  obtain ⟨σ',H',I',q⟩:=z
  rcases q with q | ⟨a,kvs,o,hq,nb,q⟩
  ·exact ⟨σ',H',I',q⟩
  ·exact ⟨σ',_,I'.thaw hq (fun ob u z=>nb ob u (I.base.frzs a ob u z)),q⟩
 | cont=>exact z
 | brk=>exact z
 | ret v=>exact z
end
end L2
namespace Vi
open PySem PySem.Spec PyProof.Rows L2
section
variable {X:Cx} {cl:Nat→Addr} {ρ:Env} {k:Kd} {tg:List Nat} {one:Bool} {g:TG} {tgE iter:Expr} {H H0 H1:Hp} {F:Nat→List Addr} {σ:L2.St} {a:Addr} {o:Obj} {kvs:List (Key × V)}
noncomputable def oldE (ρ:Env):Env:=ρ.map fun e=>e.map fun p=>(p.1,false)
theorem inComp_old:inComp (oldE ρ) tg=inComp ρ tg:=by
 unfold inComp oldE
 rw [ym]
 congr 2
 funext e
 cases e <;> rfl
theorem turnC_old {c:Env→R Bool} {e:Env→R (D × Kd)}:dq (oldE ρ) tg one c e=dq ρ tg one c e:=by
 funext d
 unfold dq
 rw [inComp_old]
theorem freezeL (ha:H1 a=some (.dK kvs)) (f:List Addr):g8 f H1 (upd H1 a (.frz o (.dK kvs))):=⟨fun b _=>by
 by_cases hb:b=a
 ·subst hb; exact .inr ⟨o,kvs,.inl ⟨ha,ai⟩⟩
 ·exact .inl (ah hb),fun b vs z=>by rw [ah (fun w=>by rw [w,ha] at z; (injection z with z; injection z))]; exact z⟩
theorem SOK.freeze (S:SOK cl H0 ρ F σ H1) (ha:H1 a=some (.dK kvs)):SOK cl (upd H1 a (.frz o (.dK kvs))) (oldE ρ) F σ (upd H1 a (.frz o (.dK kvs))):=by
 have S':SOK cl H1 (oldE ρ) F σ H1:=S.allOld
 have nt:∀ (i:Nat) (d:D),(oldE ρ)[i]?≠some (some (d,true)):=fun i d z=>by
  unfold oldE at z
  rw [yn] at z
  cases e:ρ[i]? with
  | none=>rw [e] at z; injection z
  | some y =>
   rw [e] at z
   cases y with
   | none=>(injection z with z; injection z)
   | some p=>cases z
 refine ⟨Same.refl _,S'.len,fun j d ob h=>?_,fun j d h=>absurd h (nt j d),S'.dis,fun j d h b hb=>?_⟩
 ·obtain ⟨v,h1,r⟩:=S'.rep j d ob h
  exact ⟨v,h1,r.keepL (freezeL ha _)⟩
 ·have z:=S'.old j d h b hb
  by_cases hb:b=a
  ·rw [hb,ai]; simp
  ·rw [ah hb]; exact z
theorem jgo {l:List (Key × D)} {B:Hp} (hks:l.map (·.1)=kvs.map (·.1)) (hB:B a=some (.frz o (.dK kvs))):JOk cl (Itd a o kvs) (l.map fun kv=>keyD kv.1) B:=by
 have hlen:kvs.length=l.length:=by
  have:=congrArg vg hks
  simpa using this.symm
 refine ⟨fun i H' s hi=>⟨s a _ hB, ?_⟩,fun i H' x H'' s y hi=>?_,fun i H' s hi=>⟨s a _ hB, ?_⟩⟩
 ·rw [z7] at hi
  rw [hlen]
  exact hi
 ·refine zz fun P_ k_=>?_
  obtain ⟨eH,key,v,hk,ex⟩:=y
  refine k_ ?_
  subst eH
  have e1:(l.map (·.1))[i]?=some key:=by rw [hks,yn,hk]; rfl
  refine ⟨Same.refl _,keyD key,[], ?_, ?_,fun b hb=>absurd hb xg⟩
  ·rw [yn] at e1 ⊢
   cases q:l[i]? with
   | none=>rw [q] at e1; injection e1
   | some p=>rw [q] at e1; (injection e1 with e1; subst e1); rfl
  ·rw [ex]
   cases key with
   | inl n=>exact ⟨rfl,rfl⟩
   | inr n=>exact ⟨rfl,rfl⟩
 ·rw [z7] at hi
  rw [hlen]
  exact hi
theorem iD {l:List (Key × D)} {cnd:Env→R Bool} {el:Env→R (D × Kd)} {tc:TT} {te:TE} {all:List D} {b:Bool} {Q:VK} (hB:dn cl tg one g) (hl:l.length≤1000000)
  (hT:∀ ρ t σ H Q,cnd ρ=.ok t→tTd cl ρ t σ H Q→tc σ H Q) (hE:∀ ρ d k σ H Q,el ρ=.ok (d,k)→tD cl ρ d k σ H Q→te σ H Q)
  (hr:bZ (dq ρ tg one cnd el) (l.map fun kv=>keyD kv.1)=.ok (all,b)) (h:tD cl ρ (.lst all) (if b=true then .sto [] else .bor) σ H Q):tThaw (tComp (iDict (tD cl ρ (.dK l) k)) g tc te tg) σ H Q:=by
 refine zz fun P_ k_=>?_
 obtain ⟨H0,F,S,q⟩:=h
 refine k_ ?_
 refine ⟨H0,F,S,fun x H1 fp s1 r1 _=>?_⟩
 refine zz fun P_ k_=>?_
 obtain ⟨a,f,kvs,e,ef,ha,hks,rm⟩:=r1
 refine k_ ?_
 refine ⟨a,kvs,e, ?_⟩
 let Q2:VK:=fun v H'=>Q v H'∨∃ a kvs o,H' a=some (.frz o (.dK kvs))∧(∀ ob u,H a≠some (.frz ob u))∧Q v (upd H' a (.dK kvs))
 rcases ha with ha | ⟨o,ha⟩
 ·refine .inr ⟨ha,fun o=>?_⟩
  have Sf:=(S.step s1).freeze (o:=o) ha
  obtain ⟨j1,j2,j3⟩:=jgo (cl:=cl) (l:=l) (a:=a) (o:=o) hks (B:=upd H1 a (.frz o (.dK kvs))) ai
  refine gX (Q:=Q2) Sf (Same.refl _) hB j1 j2 j3 (by rw [z7]; exact hl) hT hE (by rw [turnC_old]; exact hr) fun v H' fp' s' r' k'=>.inr ⟨a,kvs,o,s' a _ ai,fun ob u z=>?_, ?_⟩
  ·have:=s1 a _ z
   rw [ha] at this; (injection this with this; injection this)
  ·have hfr:H' a=some (.frz o (.dK kvs)):=s' a _ ai
   refine q v _ fp' (fun c u z=>?_) (r'.keepL ⟨fun c _=>?_,fun c vs z=>?_⟩) ?_
   ·have z1:=s1 c u z
    by_cases hc:c=a
    ·subst hc; rw [ha] at z1; (injection z1 with z1; subst z1); exact ai
    ·rw [ah hc]; exact s' c u (by rw [ah hc]; exact z1)
   ·by_cases hc:c=a
    ·subst hc; exact .inr ⟨o,kvs,.inr ⟨hfr,ai⟩⟩
    ·exact .inl (ah hc)
   ·rw [ah (fun w=>by rw [w,hfr] at z; (injection z with z; injection z))]; exact z
   ·cases b with
    | false=>exact xm
    | true =>
     refine zz fun P_ k_=>?_
     obtain ⟨n1,_,m1,z1⟩:=k'
     refine k_ ?_
     have new:∀ c∈fp',c≠a∧H1 c=none:=fun c hc=>by
      rcases m1 c hc with w | ⟨_,w,_⟩
      ·have hca:c≠a:=fun y=>by rw [y,ai] at w; injection w
       rw [ah hca] at w
       exact ⟨hca,w⟩
      ·cases w
     refine ⟨n1,fun _ w=>absurd w xg,fun c hc=>.inl (s1.free (new c hc).2),fun c hc ob u w=>?_⟩
     rw [ah (new c hc).1] at w
     exact z1 c hc ob u w
 ·refine .inl ⟨o,ha, ?_⟩
  obtain ⟨j1,j2,j3⟩:=jgo (cl:=cl) (l:=l) (a:=a) (o:=o) hks (B:=H1) ha
  exact gX (Q:=Q2) (S.step s1) s1 hB j1 j2 j3 (by rw [z7]; exact hl) hT hE hr fun v H' fp' s' r' k'=>.inl (q v H' fp' s' r' k')
end
section
variable {X:Cx} {cl:Nat→Addr} {M:Tab} {a b c e o:Expr} {es rest:List Expr} {pos p p2 apos cpos spos:Pos} {a' b' c' e' o':E} {es':List E}
theorem jh {ρ:Env} {xs:List D} {k:Kd} (h:runI M .keys [a'] ρ=.ok (xs,k)):∃ l,runE M a' ρ=.ok (.dK l,k)∧xs=l.map fun kv=>keyD kv.1:=by
 rw [rI_1] at h
 obtain ⟨⟨x,kx⟩,g1,h⟩:=R.bind_ok h
 simp only [eV,dS,R.ok_bind] at h
 cases x with
 | dK l =>
  rw [gj] at h
  obtain ⟨rfl,rfl⟩:=okp h
  exact ⟨l,g1,rfl⟩
 | _=>injection h
theorem iA {sc:Scope} {ifs:List Expr} (ht:(ifs=[]∧c'=.bl true)∨∃ c,ifs=[c]∧∀ X',InC X sc X'→GT X' cl M c c'):∃ tc,PIfs X sc ifs tc∧∀ ρ t σ H Q,tru1 (runE M c' ρ)=.ok t→tTd cl ρ t σ H Q→tc σ H Q:=by
 rcases ht with ⟨e1,e2⟩ | ⟨c,e1,ht⟩
 ·refine ⟨tAll,.inl ⟨e1,rfl⟩,fun ρ t σ H Q e hh_=>?_⟩
  obtain ⟨_,_,_,q⟩:=hh_
  subst e2
  simp only [tru1,fT,truD] at e
  (injection e with e; subst e)
  exact q H (Same.refl H)
 ·refine ⟨tcU cl fun ρ=>tru1 (runE M c' ρ),.inr ⟨c,e1,fun X' hX pins s σ H Q I hh_=>?_⟩,fun ρ t σ H Q e h=>⟨ρ,t,e,h⟩⟩
  obtain ⟨ρ,t,e,h⟩:=hh_
  replace e:tru1 (runE M c' ρ)=.ok t:=e
  cases hr:runE M c' ρ with
  | ok q =>
   obtain ⟨x,kx⟩:=q
   rw [hr] at e
   exact ht X' hX ρ x kx t hr e pins s σ H Q I h
  | ex z=>rw [hr] at e; injection e
  | bad=>rw [hr] at e; injection e
theorem jA {tgE iter elt:Expr} {ifs:List Expr} {sc:Scope} {tg:List Nat} {one:Bool} {g:TG} (hc:X.calm=true) (Sc:d5 X sc)
  (how:∀ (i:Nat) (x:Str),X.N[i]?=some x→sc.names.lookup x=some ya.local→i∈tg) (hs:∀ x,w5 iter X.env x=pure x) (hi:GE X cl M iter a') (hg:∀ X',InC X sc X'→PG X' tgE g) (hB:dn cl tg one g)
  (ht:(ifs=[]∧c'=.bl true)∨∃ c,ifs=[c]∧∀ X',InC X sc X'→GT X' cl M c c') (he:∀ X',InC X sc X'→GE X' cl M elt e'):GE X cl M (.ListComp elt [⟨tgE,iter,ifs,0⟩] sc pos) (.comp e' tg one .keys [a'] c'):=fun ρ d k h=>by
 rw [jc] at h
 obtain ⟨⟨xs,kx⟩,g1,h⟩:=R.bind_ok h
 simp only at h
 split at h
 ·injection h
 ·rename_i hl
  obtain ⟨⟨ys,b⟩,g2,h⟩:=R.bind_ok h
  obtain ⟨rfl,rfl⟩:=okp h
  obtain ⟨l,g3,rfl⟩:=jh g1
  obtain ⟨tc,hT,hT'⟩:=iA ht
  exact aT (pe_thaw (pe_comp tg hc Sc how (pi_dict (hi ρ _ kx g3)) hg hT (fun X' hX pins s σ H Q I hh_=>(by obtain ⟨ρ,d,k,e,h⟩:=hh_; exact (he X' hX ρ d k e pins s σ H Q I h))) hs)) fun σ H Q h =>
   iD (te:=teU cl fun ρ1=>runE M e' ρ1) hB (by simpa using hl) hT' (fun ρ d k σ H Q e h=>⟨ρ,d,k,e,h⟩) g2 h
theorem gs_setCompD {tgE iter elt:Expr} {ifs:List Expr} {sc:Scope} {tg:List Nat} {one:Bool} {g:TG} {i:Nat} {y:Str} {py:Pos} (hc:X.calm=true) (hN:X.N.Nodup) (hj:X.N[i]?=some y) (hy:Loc X.env.scope y) (Sc:d5 X sc)
  (how:∀ (i:Nat) (x:Str),X.N[i]?=some x→sc.names.lookup x=some ya.local→i∈tg) (hs:∀ x,w5 iter X.env x=pure x) (hsw:ug (.ListComp elt [⟨tgE,iter,ifs,0⟩] sc pos) (some (.Name y py)) spos.line X.env=pure true)
  (hf:X.fn y=true∨X.env.scope.names.lookup y=some .local) (hi:GE X cl M iter a') (hg:∀ X',InC X sc X'→PG X' tgE g) (hB:dn cl tg one g)
  (ht:(ifs=[]∧c'=.bl true)∨∃ c,ifs=[c]∧∀ X',InC X sc X'→GT X' cl M c c') (he:∀ X',InC X sc X'→GE X' cl M elt e'):GS X cl M (.Assign [.Name y py] (.ListComp elt [⟨tgE,iter,ifs,0⟩] sc pos) spos) (.set i (.comp e' tg one .keys [a'] c')):=fun ρ=>by
 rw [rS_set,jc]
 cases g1:runI M .keys [a'] ρ with
 | ex z=>exact s_ex
 | bad=>exact bt
 | ok q =>
  obtain ⟨xs,kx⟩:=q
  simp only [R.ok_bind]
  split
  ·exact bt
  ·rename_i hl
   cases g2:bZ (dq ρ tg one (fun ρ1=>tru1 (runE M c' ρ1)) (fun ρ1=>runE M e' ρ1)) xs with
   | ex z=>exact s_ex
   | bad=>exact bt
   | ok q =>
    obtain ⟨ys,bb⟩:=q
    simp only [R.ok_bind,R.pure_eq,ofR]
    cases hs2:aN ρ i (.lst ys) (if bb=true then .sto [] else .bor) with
    | none=>exact bt
    | some ρ' =>
     obtain ⟨l,g3,rfl⟩:=jh g1
     obtain ⟨tc,hT,hT'⟩:=iA ht
     have he':∀ X',InC X sc X'→PE X' elt (teU cl fun ρ1=>runE M e' ρ1):=fun X' hX pins s σ H Q I ⟨ρ,d,k,e,h⟩=>he X' hX ρ d k e pins s σ H Q I h
     refine s_set (cz (ps_thaw (ps_comp tg hc hN hj hy Sc how (pi_dict (hi ρ _ kx g3)) hg hT he' hsw hf hs)) fun D σ H h=>?_) hs2
     exact iD (te:=teU cl fun ρ1=>runE M e' ρ1) hB (by simpa using hl) hT' (fun ρ d k σ H Q e h=>⟨ρ,d,k,e,h⟩) g2 h
end
end Vi
namespace Vi
open PySem PySem.Spec PyProof.Rows L2
section
variable {X:Cx} {cl:Nat→Addr} {M:Tab}
theorem gs_aug {i:Nat} {n:Int} {j} {x:Str} {pos p1 p2:Pos} (hN:X.N.Nodup) (hi:X.N[i]?=some x) (hx:Loc X.env.scope x) (hf:X.fn x=true∨X.env.scope.names.lookup x=some .local) :
  GS X cl M (.AugAssign (.Name x p1) .Add (.Constant (.int n) j p2) pos) (.set i (.bin .add (.var i) (.int n))):=fun ρ=>by
 rw [rS_set]
 cases hr:runE M (.bin .add (.var i) (.int n)) ρ with
 | ok q =>
  obtain ⟨d,k⟩:=q
  show PS X _ (tSd cl ρ _ (ofO (aN ρ i d k)))
  cases hs2:aN ρ i d k with
  | none=>exact bt
  | some ρ' =>
   rw [rE_bin] at hr
   refine zz fun P_ k_=>?_
   obtain ⟨⟨y,ky⟩,h1,hr1⟩:=R.bind_ok hr
   obtain ⟨⟨z,kz⟩,h2,hr2⟩:=R.bind_ok hr1
   obtain ⟨w,h3,hr3⟩:=R.bind_ok hr2
   refine k_ ?_
   clear hr hr1 hr2
   injection h2 with h2; injection h2 with h2 _
   subst h2
   injection hr3 with hr3; injection hr3 with e1 e2
   subst e1; subst e2
   have hy:∃ a,y=.int a∧w=.int (a+n):=by
    cases y with
    | int a=>injection h3 with h3; exact ⟨a,rfl,h3.symm⟩
    | _=>injection h3
   obtain ⟨a,ey,ew⟩:=hy
   subst ey; subst ew
   have hl:∃ o,ρ[i]?=some (some (.int a,o)):=by
    rw [bF] at h1
    unfold getV at h1
    cases e:ρ[i]? with
    | none=>rw [e] at h1; injection h1
    | some u =>
     cases u with
     | none=>rw [e] at h1; injection h1
     | some u =>
      obtain ⟨d,o⟩:=u
      rw [e] at h1
      injection h1 with h1; injection h1 with h1 _
      exact ⟨o,by rw [h1]⟩
   obtain ⟨o,hl⟩:=hl
   refine s_set (cz (ps_aug hN hi hx pe_int ip_add hf) fun D σ H hh_=>?_) hs2
   refine zz fun P_ k_=>?_
   obtain ⟨H0,F,S,q⟩:=hh_
   obtain ⟨v,hv,r⟩:=S.rep i _ _ hl
   refine k_ ?_
   exact ⟨v,hv,a,n,r.1,rfl,q _ H [] (Same.refl H) ⟨rfl,rfl⟩ KOk.nil0⟩
 | ex z=>exact s_ex
 | bad=>exact bt
end
end Vi
namespace Vi
open PySem PySem.Spec PyProof.Rows L2
section
variable {X:Cx} {cl:Nat→Addr} {M:Tab} {e:Expr} {pos:Pos} {e':E}
theorem bind_nil (o:Out):(o.bind fun ρ'=>al M [] ρ')=o:=by cases o <;> rfl
theorem gss_wth {tgE:Expr} {is:List Nat} {j:Nat} {rest:List Stmt} {b':List S} (hg:PG X tgE (gTup X.K is.length (gNames is))) (hs:swapsWithSole [tgE] e pos.line X.env=pure false) (hw:swappedStores [tgE] e X.env=pure none) (h1:(pr [tgE] X.env).map (·.2)=[assign tgE X.env]) (he:GE X cl M e e') (h:GSs X cl M rest b') :
  GSs X cl M (.Assign [tgE] e pos::rest) [.wth is j e' b']:=fun ρ=>by
 rw [jb,bind_nil,rS_wth]
 show PSs X _ (tSd cl ρ ((is++asgs b')++[]) _)
 rw [xf]
 cases hr:runE M e' (ao ρ (.sto [j])) with
 | ok q =>
  obtain ⟨d,k⟩:=q
  cases k with
  | old =>
   simp only
   cases hb:cn (ao ρ (.sto [j])) is false d .old with
   | none=>exact ss_bad
   | some ρ2 =>
    simp only
    refine fq (eX (ps_asg (he _ _ _ hr) hg hs hw h1) (h ρ2)) fun D σ H hh=>?_
    refine zz fun P_ k_=>?_
    obtain ⟨H0,F,S,q⟩:=hh
    refine k_ ?_
    have L:=fu ρ (.sto [j])
    refine ⟨_,F,S.rebase L,fun v H1 fp s1 r1 q1=>?_⟩
    refine jJ (K:=X.K) (tg:=is) _ _ ρ2 F σ H1 v d fp ((S.rebase L).step s1) r1 q1 hb _ fun σ2 F2 S2 hl fr2=>⟨_,F2,S2, ?_⟩
    have fr3:∀ {σ3:L2.St},(∀ j,j∉asgs b'→σ3[j]?=σ2[j]?)→∀ j,j∉is++asgs b'→σ3[j]?=σ[j]?:=fun {σ3} h3 j hj =>
     (h3 j fun z=>hj (zd _ z)).trans (fr2 j fun z=>hj (zk _ z))
    cases hf:al M b' ρ2 with
    | nx ρ3 =>
     rw [hf] at q
     exact fun σ3 H3 F3 S3 h3=>by obtain ⟨F4,S4⟩:=S.restore L S3 (fr3 h3); exact q σ3 H3 F4 S4 (fr3 h3)
    | bk ρ3 =>
     rw [hf] at q
     exact fun σ3 H3 F3 S3 h3=>by obtain ⟨F4,S4⟩:=S.restore L S3 (fr3 h3); exact q σ3 H3 F4 S4 (fr3 h3)
    | ct ρ3 =>
     rw [hf] at q
     exact fun σ3 H3 F3 S3 h3=>by obtain ⟨F4,S4⟩:=S.restore L S3 (fr3 h3); exact q σ3 H3 F4 S4 (fr3 h3)
    | rt r =>
     rw [hf] at q
     refine fun v H3 fp s3 r3 n3 h3=>q v H3 fp (fun b o hbo=>s3 b o ((dP S L (by rw [hbo]; intro z; injection z)).trans hbo)) r3 n3 fun a ha=>⟨?_,(h3 a ha).2⟩
     cases qa:H0 a with
     | none=>rfl
     | some y =>
      have:=dP S L (a:=a) (by rw [qa]; intro z; injection z)
      rw [(h3 a ha).1,qa] at this
      injection this
    | ex z=>rw [hf] at q; exact q
    | bad=>rw [hf] at q; exact q
  | _=>exact ss_bad
 | _=>exact ss_bad
end
end Vi
namespace L2
open PySem PyProof.Rows
theorem rv_look : pp (.type "tuple") "__reversed__" = pure none := by
 rw [vo,xw]
 kernel_rfl
theorem rv_dict : isSubtype (.type "tuple") (.type "dict") = pure false := by
 rw [ul]
 kernel_rfl
theorem rv_init : Slot "reversed" "__init__" "object.__init__" := by
 refine Slot.of (owner := "object") (n := "__init__") ?_ ?_ ?_ ?_ ?_ ?_
 ·rw [vo,xw]
  kernel_rfl
 ·decide +kernel
 ·decide +kernel
 ·decide +kernel
 ·first
  | exact .inl (by decide +kernel)
  | exact .inr (by decide +kernel)
 ·rw [ul]
  kernel_rfl
theorem gw : Slot "reversed" "__next__" "reversed.__next__" := by
 refine Slot.of (owner := "reversed") (n := "__next__") ?_ ?_ ?_ ?_ ?_ ?_
 ·rw [vo,xw]
  kernel_rfl
 ·decide +kernel
 ·decide +kernel
 ·decide +kernel
 ·first
  | exact .inl (by decide +kernel)
  | exact .inr (by decide +kernel)
 ·rw [ul]
  kernel_rfl
theorem rv_iter : Slot "reversed" "__iter__" "reversed.__iter__" := by
 refine Slot.of (owner := "reversed") (n := "__iter__") ?_ ?_ ?_ ?_ ?_ ?_
 ·rw [vo,xw]
  kernel_rfl
 ·decide +kernel
 ·decide +kernel
 ·decide +kernel
 ·first
  | exact .inl (by decide +kernel)
  | exact .inr (by decide +kernel)
 ·rw [ul]
  kernel_rfl
theorem rv_called : TypeCalled "reversed" "reversed.__new__" "object.__init__" := by
 refine ⟨?_, ?_,⟨_,_,F.mro_reversed⟩,F.made_reversed, ?_, ?_,rv_init⟩
 ·decide +kernel
 ·decide +kernel
 ·decide +kernel
 ·rw [ul]
  kernel_rfl
theorem rv_entry : entryFor table "reversed.__next__" = some Builtin.«reversed.__next__» := entryFor_of_tree (by kernel_rfl)
noncomputable abbrev rvObj (t : Addr) (i : Int) : Obj := { cls := .type "reversed", data := .fields #[.ref t, rawInt i] }
theorem meets_rev (t : Addr) (items : Array Value) : Meets (Builtin.«reversed.__new__» ⟨[.type "reversed", .ref t], []⟩) (fun _ R s => IsTup s.heap t items ∧ (items.size : Int) < 2 ^ 63 ∧
  R (.ok (.ret (.ref s.heap.objs.size))) { s with heap:=s.heap.push (rvObj t ((items.size:Int) - 1)),toks:=s.toks+1+1 }) :=
 .of_wp fun prog w A R s h=>by
  obtain ⟨ht,hz,h⟩:=h
  unfold Builtin.«reversed.__new__»
  refine z6 (uf (newClass_reversed _) ?_)
  try dsimp only
  refine z6 (uf (a:=()) (by kernel_rfl) ?_)
  refine z6 (uf (a:=()) (by kernel_rfl) ?_)
  try dsimp only
  refine z6 (u7 ht.typeIs rv_look ?_)
  try dsimp only
  refine z6 ?_
  show wpAny _ _ (isInstance (.ref t) (.type "dict") >>= _) _ _ _
  refine z6 (pj (T := "tuple") (U := "dict") (b := false) ht.typeIs rv_dict ?_)
  show wpAny _ _ (specialOf (.ref t) "__getitem__" >>= _) _ _ _
  refine z6 (u7 ht.typeIs slot_tuple_getitem.lookup ?_)
  show wpAny _ _ (if (List.contains _ "tuple.__getitem__") = true then _ else _) _ _ _
  rw [if_pos (by decide +kernel)]
  refine zr ?_
  show wpAny _ _ (call (.builtin "len") [.ref t] >>= _) _ _ _
  refine z6 (len_tuple ht hz ?_)
  refine z6 (uf (a:=some (items.size:Int)) rfl ?_)
  show wpAny _ _ (newObj (.type "reversed") (.fields #[.ref t, rawInt ((items.size : Int) - 1)]) >>= _) _ _ _
  refine z6 (wd ?_)
  exact zr ⟨_,rfl,h⟩
section
variable {prog:yp} {w:World} {A:Around} {E:Value→Shared→Prop} {s:Shared}
theorem fM {t:Addr} {items:Array Value} {Q:Value→Shared→Prop} (ht:IsTup s.heap t items) (hz:(items.size:Int) < 2 ^ 63)
  (h : Q (.ref s.heap.objs.size) { s with heap := s.heap.push (rvObj t ((items.size : Int) - 1)), toks := s.toks + 1 + 1 }) : wpAny (model prog w) A (call (.type "reversed") [.ref t]) Q E s := by
 refine callType_new rv_called (by decide) (F.typeCall_reversed_1 _) (F.newCall_reversed_1 _) (fun obj=>F.args_object_init_2 obj _) F.entry_reversed_new (meets_rev t items) ⟨ht,hz, ?_⟩
 exact ⟨⟨_,zy _ rfl,rfl⟩,h⟩
end
end L2
namespace L2
open PySem PyProof.Rows
theorem iY:Manifest.owners.lookup (String.ofList ['d','e','s','r','e','v','e','r'].reverse)=some Manifest.sig_reversed:=by kernel_rfl
theorem rv_args (a : Value) : argsOk "reversed.__next__" ⟨[a], []⟩ := by
 unfold argsOk
 rw [signature?_of (id := "reversed.__next__") (n := ['_', '_', 't', 'x', 'e', 'n', '_', '_']) (o := ['d', 'e', 's', 'r', 'e', 'v', 'e', 'r']) (by kernel_rfl) iY]
 kernel_rfl
theorem rv_args_i (a : Value) : argsOk "reversed.__iter__" ⟨[a], []⟩ := by
 unfold argsOk
 rw [signature?_of (id := "reversed.__iter__") (n := ['_', '_', 'r', 'e', 't', 'i', '_', '_']) (o := ['d', 'e', 's', 'r', 'e', 'v', 'e', 'r']) (by kernel_rfl) iY]
 kernel_rfl
theorem rv_entry_i : entryFor table "reversed.__iter__" = some Builtin.«dict_keyiterator.__iter__» := by
 refine entryFor_alias (id' := "dict_keyiterator.__iter__") (by kernel_rfl) ?_ (by decide +kernel) (by kernel_rfl)
 first
 | rfl
 | decide +kernel
noncomputable def IsRv (h : Heap) (a t : Addr) (i : Int) : Prop := ∃ o, h.get? a = some o ∧ o.cls = .type "reversed" ∧ o.data = .fields #[.ref t, rawInt i]
section
variable {prog:yp} {w:World} {A:Around} {E:Value→Shared→Prop} {s:Shared}
theorem IsRv.ty {a t : Addr} {i : Int} (x : IsRv s.heap a t i) : s.TypeIs (.ref a) "reversed" := let ⟨o, ho, hc, _⟩ := x; ⟨o, ho, hc⟩
theorem rv_item {it t:Addr} {i:Nat} {items:Array Value} {x:Value} {Q:Option Value→Shared→Prop} (hit:IsRv s.heap it t (i:Int)) (ht:IsTup s.heap t items) (hx:items[i]?=some x) (hz:(items.size:Int) < 2 ^ 63)
  (hQ:∀ h' k,s.toks≤k→IsRv h' it t ((i:Int) - 1)→t3 it s.heap h'→Q (some x) { s with heap:=h',toks:=k }):wpAny (model prog w) A (pyNext (.ref it)) Q E s:=by
 refine zz fun P_ k_=>?_
 obtain ⟨o,ho,hc,hd⟩:=id hit
 refine k_ ?_
 have hlt:i < items.size:=(Array.getElem?_eq_some_iff.mp hx).1
 unfold pyNext
 refine z6 (wpAny_attempt (qy (name := oz "__next__") hit.ty gw (tq gw hit.ty rv_entry ?_ (rv_args _))))
 unfold Builtin.«reversed.__next__»
 refine z6 (uf (a:=(x9 it,[])) rfl ?_)
 try dsimp only
 refine z6 (uw ho hd (x:=.ref t) rfl ?_)
 refine z6 (uw ho hd (x:=rawInt (i:Int)) rfl ?_)
 show wpAny _ _ (if (i:Int) < 0 then _ else _) _ _ s
 rw [if_neg (u9.mpr (y8 i))]
 refine z6 (u7 ht.typeIs slot_tuple_getitem.lookup ?_)
 rw [if_neg (show ¬ (Option.isNone (some (Value.builtin "tuple.__getitem__")) = true) from y9)]
 refine z6 (wpAny_mkInt ?_)
 refine z6 (wpAny_attempt (getItem_tuple (j:=i) ?_ ?_ ?_ ?_ hx ?_))
 ·exact ht
 ·exact sq (by decide) (y8 i)
 ·exact vf (ve.mpr hlt) hz
 ·have n:=u9.mpr (y8 i)
  simp only [seqIndex?,if_neg n]
  rw [if_pos (by rw [u0]; exact ⟨decide_eq_true (y8 i),decide_eq_true (ve.mpr hlt)⟩)]
  rfl
 try dsimp only
 refine z6 (uw ho hd (x:=rawInt (i:Int)) rfl ?_)
 show wpAny _ _ (setField (.ref it) 1 (rawInt ((i:Int) - 1)) >>= _) _ _ _
 refine z6 (wpAny_setField ho hd (by simp) ?_)
 refine zr ⟨x,rfl,zr (hQ _ _ ?k ?_ (ox ..))⟩
 case k =>
  simp
  try omega
 refine ⟨_,up _ ho (Obj.isFreed_of_fields (qv hd _)), ?_, ?_⟩
 ·exact (Obj.cls_mapFields ..).trans hc
 ·rw [qv hd]
  simp
theorem rv_end {it t:Addr} {Q:Option Value→Shared→Prop} (hh:A.handled=none) (hit:IsRv s.heap it t (-1)) (hQ:∀ h' k,s.toks≤k→Heap.ExtBut it s.heap h'→Q none { s with heap:=h',toks:=k }):wpAny (model prog w) A (pyNext (.ref it)) Q E s:=by
 refine zz fun P_ k_=>?_
 obtain ⟨o,ho,hc,hd⟩:=id hit
 refine k_ ?_
 unfold pyNext
 refine z6 (wpAny_attempt (qy (name := oz "__next__") hit.ty gw (tq gw hit.ty rv_entry ?_ (rv_args _))))
 unfold Builtin.«reversed.__next__»
 refine z6 (uf (a:=(x9 it,[])) rfl ?_)
 try dsimp only
 refine z6 (uw ho hd (x:=.ref t) rfl ?_)
 refine z6 (uw ho hd (x:=rawInt (-1)) rfl ?_)
 show wpAny _ _ (if (-1:Int) < 0 then _ else _) _ _ s
 rw [if_pos (by decide)]
 refine z6 (wpAny_rule ?_)
 refine z6 ?_
 show wpAny _ _ (setField (.ref it) 1 (rawInt (-1)) >>= _) _ _ _
 refine z6 (wpAny_setField ho hd (by simp) ?_)
 refine wpAny_setField (up _ ho (Obj.isFreed_of_fields (qv hd _))) (qv hd _) (by simp) ?_
 refine z6 ?_
 show wpAny _ _ (newExc (.type "StopIteration") [] >>= _) _ _ _
 refine z6 ?_
 simp only [newExc,newTuple]
 refine z6 (wd ?_ ?_)
 ·refine z6 (m:=firstArgMember _ _) ?_
  refine uf (a:=qu) (by simp only [firstArgMember]; rfl) ?_
  refine wd ?_ ?_
  ·unfold raiseNew
   refine z6 (wpAny_handled ?_)
   rw [show A.in1.handled=none from hh]
   refine z6 (zr (wpAny_throw ?_))
   refine z6 (pj (T := "StopIteration") (b := true) ⟨_, zy _ rfl, rfl⟩ isSubtype_stop ?_)
   refine zr (hQ _ _ (by simp; try omega) fun b ob hb eb=>?_)
   refine zb _ (zb _ ?_)
   have u1:=(ox s.heap it (Obj.mapFields fun x=>x.setIfInBounds 1 (rawInt (-1)))).2 b hb
   have u2:=(ox (s.heap.update it (Obj.mapFields fun x=>x.setIfInBounds 1 (rawInt (-1)))) it (Obj.mapFields fun x=>x.setIfInBounds 0 qu)).2 b hb
   exact u2.trans (u1.trans eb)
  ·size_fits
 ·size_fits
theorem rv_self {it t:Addr} {i:Int} {Q:Value→Shared→Prop} (hit:IsRv s.heap it t i) (h:Q (.ref it) s):wpAny (model prog w) A (pyIter (.ref it)) Q E s:=by
 refine wpAny_pyIter_slot hit.ty rv_iter (tq rv_iter hit.ty rv_entry_i ?_ (rv_args_i _))
 show wpAny _ _ (ret (.ref it)) _ _ s
 exact zr ⟨_, rfl, "reversed", _, hit.ty, gw.lookup, h⟩
end
end L2
namespace L2
open PySem PyProof.Rows
theorem rv_nolen : pp (.type "reversed") "__len__" = pure none := by
 rw [vo,xw]
 kernel_rfl
theorem rv_hint : Slot "reversed" "__length_hint__" "reversed.__length_hint__" := by
 refine Slot.of (owner := "reversed") (n := "__length_hint__") ?_ ?_ ?_ ?_ ?_ ?_
 ·rw [vo,xw]
  kernel_rfl
 ·decide +kernel
 ·decide +kernel
 ·decide +kernel
 ·first
  | exact .inl (by decide +kernel)
  | exact .inr (by decide +kernel)
 ·rw [ul]
  kernel_rfl
theorem rv_entry_h : entryFor table "reversed.__length_hint__" = some Builtin.«reversed.__length_hint__» := entryFor_of_tree (by kernel_rfl)
theorem rv_args_h (a : Value) : argsOk "reversed.__length_hint__" ⟨[a], []⟩ := by
 unfold argsOk
 rw [signature?_of (id := "reversed.__length_hint__") (n := ['_', '_', 't', 'n', 'i', 'h', '_', 'h', 't', 'g', 'n', 'e', 'l', '_', '_']) (o := ['d', 'e', 's', 'r', 'e', 'v', 'e', 'r']) (by kernel_rfl) iY]
 kernel_rfl
section
variable {prog:yp} {w:World} {A:Around} {E:Value→Shared→Prop} {s:Shared}
theorem rv_len {it t:Addr} {items:Array Value} {Q:Bool→Shared→Prop} (hit:IsRv s.heap it t ((items.size:Int) - 1)) (ht:IsTup s.heap t items) (hz:items.size≤y4)
  (hQ:∀ b k,s.toks≤k→Q b { s with toks:=k }):wpAny (model prog w) A (ue (.ref it)) Q E s:=by
 refine zz fun P_ k_=>?_
 obtain ⟨o,ho,hc,hd⟩:=id hit
 refine k_ ?_
 have hz':(items.size:Int) < 2 ^ 63:=qx (uz.mpr hz) (by decide +kernel)
 unfold ue
 refine z6 (u7 hit.ty rv_nolen ?_)
 show wpAny _ A (specialOf (x9 it) (oz "__length_hint__") >>= _) _ _ _
 refine z6 (u7 hit.ty rv_hint.lookup ?_)
 generalize hid : ("reversed.__length_hint__" : String) = id0
 wp_delta
 rw [show splitId id0 = some ("reversed", "__length_hint__") from by subst hid; decide +kernel]
 subst hid
 refine z6 (pj (T := "reversed") (b := true) hit.ty (by rw [ul]; kernel_rfl) ?_)
 refine uu (fun hab=>absurd hab (by decide)) (fun _=>?_)
 refine uu (fun hab=>absurd hab (by decide +kernel)) (fun _=>?_)
 refine z6 (wpAny_rule ?_)
 refine z6 (uf (rv_hint.bind _) ?_)
 refine z6 (wpAny_attempt (tq rv_hint hit.ty rv_entry_h ?_ (rv_args_h _)))
 unfold Builtin.«reversed.__length_hint__»
 refine z6 (uf (a:=x9 it) rfl ?_)
 try dsimp only
 refine z6 (uw ho hd (x:=.ref t) rfl ?_)
 refine uu (fun hab=>absurd hab y9) (fun _=>?_)
 refine z6 (len_tuple ht hz' ?_)
 refine z6 (uf (a:=some (items.size:Int)) rfl ?_)
 try dsimp only
 refine z6 (uw ho hd (x:=rawInt ((items.size:Int) - 1)) rfl ?_)
 show wpAny _ _ (if (items.size:Int) < (items.size:Int) - 1+1 then _ else _) _ _ _
 rw [if_neg (by omega)]
 unfold retInt
 refine z6 (wpAny_mkInt (zr ⟨_,rfl, ?_⟩))
 have e1:(items.size:Int) - 1+1=(items.size:Int):=Int.sub_add_cancel ..
 rw [e1]
 dsimp only
 refine z6 (m:=asInt? _) ?_
 have e2:asInt? (nc (items.size:Int) (s.toks+1+1))=pure (some (items.size:Int)):=by with_unfolding_all rfl
 rw [e2]
 refine zr ?_
 dsimp only
 have f1:xa.List.listFitsIndex (items.size:Int)=true:=by
  unfold xa.List.listFitsIndex
  rw [u0]
  exact ⟨decide_eq_true (sq (b:=0) (by decide +kernel) (y8 _)),decide_eq_true hz'⟩
 have f2:wc (items.size:Int).toNat=false:=by
  rw [xq]
  unfold wc
  exact decide_eq_false (by omega)
 rw [f1,f2]
 rw [if_neg (by decide),if_neg (by omega),if_neg (by decide)]
 exact zr (hQ _ _ (by omega))
end
end L2
namespace L2
open PySem PyProof.Rows
section
variable {prog:yp} {w:World} {A:Around} {s:Shared} {I:Addr} {fp wr:List Addr} {G:Array GenState→Array GenState→Prop} {n:Nat} {P:Nat→Value→Prop} {St:Nat→Shared→Prop} {T:String}
noncomputable def Hints (prog:yp) (w:World) (A:Around) (I:Addr) (St:Nat→Shared→Prop):Prop:=∀ (s:Shared) (Q:Bool→Shared→Prop) (E:Value→Shared→Prop),St 0 s→(∀ b k,s.toks≤k→Q b { s with toks:=k })→wpAny (model prog w) A (ue (.ref I)) Q E s
theorem ex_any {R : Result → Shared → Prop} {Qf : Fin → Shared → Prop} {Ef : Value → Shared → Prop} (hag : ∀ c' s', c'.quiet = true → qq (model prog w) A c' R s' → Qf (.again c') s') (W : WalksS prog w A.in1 I fp wr G n P St) (hT : ∀ i s, St i s → s.TypeIs (.ref I) T) (nl : (Value.type T == Value.type "list") = false) (nt : (Value.type T == Value.type "tuple") = false) (hh : Hints prog w A.in1 I St)
  (S : Addr) (res : Value) (c : Nat) (st : St 0 s) (sf : S ∉ fp) (hI : I ∈ fp) (hS : s.heap.get? S = some { cls := .type "list", data := .seq #[] c })
  (hR : ∀ s' xs c', Moved (S :: wr) G s s' → s'.heap.get? S = some { cls := .type "list", dict := none, data := .seq xs c', slots := #[] } → ItemsOf P xs n → R (.ok (.ret res)) s') (hn : n ≤ y4) :
  wpAny (model prog w) A.in1 (vi (.ref S) (.ref I) res) Qf Ef s:=by
 have ne:S≠I:=fun e=>sf (e ▸ hI)
 have key : ∀ (h : Heap) (c₁ tk : Nat), s.toks ≤ tk → (∀ b o, b ≠ S → s.heap.get? b = some o → h.get? b = some o) → h.get? S = some { cls := .type "list", data := .seq #[] c₁ } →
   qq (model prog w) A (.builtin "list.extend.loop" ⟨[.ref S, .ref I, res], []⟩) R { s with heap := h, toks := tk } := by
  intro h c₁ tk ht hk h₁
  refine codeAny_extend_loopS W hn S sf res n 0 _ #[] c₁ rfl (xc _) (W.frame 0 s h tk st ht fun b hb o e=>hk b o (fun q=>sf (q ▸ hb)) e) h₁ (ItemsOf.nil P) fun s' xs c' hm hs hx=>hR s' xs c' ?_ hs hx
  exact Moved.trans W.gtrans ((Moved.refl W.grefl).then_heap ht fun b o hb e=>hk b o (fun q=>hb (q ▸ za)) e) hm
 unfold vi
 refine z6 (oy (hT 0 s st) ?_)
 have n1:xa.List.listSameRef (.ref S) (.ref I)=false:=by
  simp [xa.List.listSameRef,ne]
 simp only [n1,nl,nt,Bool.or_false,Bool.false_eq_true,if_false]
 refine z6 (W.self 0 s _ _ st (z6 (pz (hh s _ _ st fun b k hk=>?_))))
 refine uu (fun _=>?_) fun _=>zr (hag _ _ (qi F.plain_extend_loop _) (key _ c _ hk (fun _ _ _ e=>e) hS))
 refine z6 (wpAny_rule (z6 ?_))
 show wpAny _ _ (updateSeq S (·.push .none) >>= fun _=>updateSeq S (·.pop)) _ _ _
 refine z6 (oh hS rfl ?_)
 have h2:=up (no (·.push qu)) hS rfl
 refine oh (hz:=by seq_fits) h2 rfl ?_
 have h3:=up (no (·.pop)) h2 rfl
 refine zr (hag _ _ (qi F.plain_extend_loop _) (key _ _ _ hk (fun b o hb e=>?_) h3))
 exact (ud _ _ (wt hb)).trans ((ud _ _ (wt hb)).trans e)
end
section
variable {prog:yp} {w:World} {A:Around} {E:Value→Shared→Prop} {s:Shared} {I:Addr} {fp wr:List Addr} {G:Array GenState→Array GenState→Prop} {n:Nat} {P:Nat→Value→Prop} {St:Nat→Shared→Prop} {T:String}
theorem list_any {Q : Value → Shared → Prop} (W : WalksS prog w A.in1.in1 I fp wr G n P St) (hT : ∀ i s, St i s → s.TypeIs (.ref I) T) (nl : (Value.type T == Value.type "list") = false) (nt : (Value.type T == Value.type "tuple") = false) (hh : Hints prog w A.in1.in1 I St)
  (st:St 0 s) (hfp:∀ b∈fp,b < s.heap.objs.size) (hI:I∈fp)
  (hQ : ∀ s' xs c', Moved (s.heap.objs.size :: wr) G { s with heap := s.heap.push { cls := .type "list", data := .seq #[] } } s' → s'.heap.get? s.heap.objs.size = some { cls := .type "list", dict := none, data := .seq xs c', slots := #[] } → ItemsOf P xs n → Q (.ref s.heap.objs.size) s') (hn : n ≤ y4) :
  wpAny (model prog w) A (call (.type "list") [.ref I]) Q E s := by
 have sf:s.heap.objs.size∉fp:=fun hm=>v7 _ (hfp _ hm)
 refine callType_codes (Q₁ := fun o s₁ => o = .ref s.heap.objs.size ∧ s₁ = { s with heap := s.heap.push { cls := .type "list", data := .seq #[] } }) F.called_list (F.typeCall_list_1 _) F.entry_list_init (code_list_new _ ⟨rfl, rfl⟩) fun o s₁ q => ?_
 obtain ⟨rfl,rfl⟩:=q
 have hS : (s.heap.push { cls := .type "list", data := .seq #[] }).get? s.heap.objs.size = some { cls := .type "list", data := .seq #[] } := zy _ rfl
 refine ⟨⟨_,hS,rfl⟩,F.args_list_init_2 _ _, ?_⟩
 show wpAny _ _ (do let old ← xa.List.listItems (.ref s.heap.objs.size); xa.List.listUpdate (.ref s.heap.objs.size) (fun _=>#[]); letGo old.toList.reverse; vi (.ref s.heap.objs.size) (.ref I) .none) _ _ _
 refine z6 ?_
 unfold xa.List.listItems
 refine z6 (wpAny_seqItems hS rfl (zr ?_))
 show wpAny _ _ (updateSeq s.heap.objs.size (fun _=>#[]) >>= fun _=>letGo (#[]:Array Value).toList.reverse >>= fun _=>vi (.ref s.heap.objs.size) (.ref I) .none) _ _ _
 refine z6 (oh hS rfl ?_)
 have h2:=up (no (fun _=>(#[]:Array Value))) hS rfl
 refine z6 (wpAny_letGo (ex_any (fun _ _ a b=>⟨a,b⟩) W hT nl nt hh _ .none _ ?_ sf hI h2 ?_ hn))
 ·exact W.frame 0 s _ s.toks st (zf _) fun b hb o e=>(ud _ _ (fun q:s.heap.objs.size=b=>sf (q ▸ hb))).trans (zb _ e)
 ·exact fun s' xs c' hm hs hx=>⟨rfl,hQ s' xs c' (Moved.trans W.gtrans ((Moved.refl W.grefl).then_heap (zf _) fun b o hb e=>(ud _ _ (fun q:s.heap.objs.size=b=>hb (q ▸ za))).trans e) hm) hs hx⟩
theorem coll_any {Q : List Value → Shared → Prop} (W : WalksS prog w A.in1 I fp wr G n P St) (hT : ∀ i s, St i s → s.TypeIs (.ref I) T) (nl : (Value.type T == Value.type "list") = false) (nt : (Value.type T == Value.type "tuple") = false) (hh : Hints prog w A.in1 I St)
  (st:St 0 s) (hfp:∀ b∈fp,b < s.heap.objs.size) (hI:I∈fp) (hQ:∀ s' xs,Moved wr G s s'→ItemsOf P xs n→Q xs.toList s') (hn:n≤y4):wpAny (model prog w) A (collect (.ref I)) Q E s:=by
 have sf:s.heap.objs.size∉fp:=fun hm=>v7 _ (hfp _ hm)
 unfold collect
 refine z6 (wpAny_runValue (qp F.entry_proto_collect ?_))
 rw [t4 F.plain_proto_collect _]
 show wpAny _ _ (newList [] >>= fun l => again (.builtin "list.__iadd__" ⟨[l, .ref I], []⟩)) _ _ s
 refine z6 (wd (zr ⟨qi F.plain_list_iadd _,qp F.entry_list_iadd ?_⟩))
 rw [t4 F.plain_list_iadd _]
 show wpAny _ _ (vi (.ref s.heap.objs.size) (.ref I) (.ref s.heap.objs.size)) _ _ _
 refine ex_any (fun _ _ a b=>⟨a,b⟩) W hT nl nt hh _ _ _ (W.frame 0 s _ s.toks st (zf _) fun b _ o e=>zb _ e) sf hI (zy _ rfl) (fun s' xs c' hm hs hx=>?_) hn
 show wpAny _ _ (load s.heap.objs.size >>= _) _ _ s'
 refine z6 (wpAny_load hs (zr (hQ s' xs ?_ hx)))
 exact Moved.drop_new (o := { cls := .type "list", data := .seq ([] : List Value).toArray }) (tk := s.toks) hm (zf _)
theorem tup_any {Q : Value → Shared → Prop} (W : WalksS prog w A.in1.in1.in1 I fp wr G n P St) (hT : ∀ i s, St i s → s.TypeIs (.ref I) T) (nl : (Value.type T == Value.type "list") = false) (nt : (Value.type T == Value.type "tuple") = false) (hh : Hints prog w A.in1.in1.in1 I St)
  (st : St 0 s) (hfp : ∀ b ∈ fp, b < s.heap.objs.size) (hI : I ∈ fp) (hQ : ∀ s' xs, Moved wr G s s' → ItemsOf P xs n → Q (.ref s'.heap.objs.size) { s' with heap := s'.heap.push { cls := .type "tuple", data := .seq xs } }) (hn : n ≤ y4) :
  wpAny (model prog w) A (call (.type "tuple") [.ref I]) Q E s := by
 refine callType_codes (Q₁ := fun o s₁ => s₁.TypeIs o "tuple" ∧ Q o s₁) F.called_tuple (F.typeCall_tuple_1 _) F.entry_object_init ?_ fun o s₁ q =>
  ⟨q.1,F.args_object_init_2 o _,object_init_meets F.called_tuple.init.lookup F.called_tuple.made (by decide) prog w A.in1 _ s₁ ⟨q.1,rfl,q.2⟩⟩
 refine codeAny_of_tree ?_
 show wpAny _ _ (do checkBuiltinCall "tuple.__new__" ⟨[.type "tuple", .ref I], []⟩; again (.builtin "tuple.__new__" ⟨[.type "tuple", .ref I], []⟩)) _ _ s
 refine z6 (uf (F.newCall_tuple_1 _) (zr ⟨qi F.plain_tuple_new _,qp F.entry_tuple_new ?_⟩))
 rw [t4 F.plain_tuple_new _]
 have g1:=sub_tuple_self
 have g2:=init_tuple_lookup
 have g3:=madeHere_tuple
 have g4:=hT 0 s st
 have ht' : (Value.type T == Value.type "tuple") = false := nt
 wp_walk using oy g4,coll_any (hn:=hn) W hT nl nt hh st hfp hI
 intro s' xs hm hx
 show wpAny _ _ (va xs.toList.toArray >>= fun v=>ret v) _ _ _
 have e:xs.toList.toArray=xs:=by simp
 rw [e]
 unfold va
 refine z6 (wd (zr ⟨⟨_,zy _ rfl,rfl⟩,hQ s' xs hm hx⟩) ?_)
 show xs.size≤y4
 rw [hx.1]
 exact hn
end
section
variable {prog:yp} {w:World} {A:Around}
theorem IsRv.at {h h':Heap} {a t:Addr} {i:Int} (x:IsRv h a t i) (e:∀ o,h.get? a=some o→h'.get? a=some o):IsRv h' a t i:=let ⟨o,ho,r⟩:=x; ⟨o,e _ ho,r⟩
theorem tup_at {h h':Heap} {a:Addr} {xs:Array Value} (x:IsTup h a xs) (e:∀ o,h.get? a=some o→h'.get? a=some o):IsTup h' a xs:=let ⟨o,ho,r⟩:=x; ⟨o,e _ ho,r⟩
theorem rv_e1 {n i:Nat} (h:i < n):(n:Int) - 1 - (i:Int)=((n - 1 - i:Nat):Int):=by
 rw [Int.ofNat_sub (Nat.le_sub_one_of_lt h),Int.ofNat_sub (zg (xc i) h)]
 rfl
theorem rv_e2 {n i:Nat} (h:i < n):((n - 1 - i:Nat):Int) - 1=(n:Int) - 1 - ((i+1:Nat):Int):=by
 rw [← rv_e1 h]
 exact Int.sub_sub _ _ _
theorem rv_e3 (n:Nat):(n:Int) - 1 - (n:Int) = -1:=by
 rw [Int.sub_sub,Int.add_comm,← Int.sub_sub,Int.sub_self]
 rfl
theorem rv_e4 {n i:Nat} (h:i < n):n - 1 - i < n:=zg (Nat.sub_le _ _) (Nat.sub_lt (zg (xc _) h) (by decide))
theorem rvW (hh:A.handled=none) (I t:Addr) (ne:t≠I) (xs:Array Value) (hz:xs.size≤y4) :
  WalksS prog w A I [I,t] [I] (fun a b=>b=a) xs.size (fun i v=>xs[xs.size - 1 - i]?=some v) (fun i s=>i≤xs.size∧IsRv s.heap I t ((xs.size:Int) - 1 - (i:Int))∧IsTup s.heap t xs) where
 sub:=fun b hb=>by
  simp at hb
  simp [hb]
 grefl:=fun _=>rfl
 gtrans:=fun _ _ _ a b=>b.trans a
 frame:=fun _ _ _ _ x _ hk=>⟨x.1,x.2.1.at fun o e=>hk I (by simp) o e,tup_at x.2.2 fun o e=>hk t (by simp) o e⟩
 item:=fun i s Q E hi x hQ=>by
  have e:=rv_e1 hi
  have it:=x.2.1
  rw [e] at it
  have hx:xs[xs.size - 1 - i]?=some (xs[xs.size - 1 - i]'(rv_e4 hi)):=Array.getElem?_eq_getElem (rv_e4 hi)
  refine rv_item it x.2.2 hx (qx (uz.mpr hz) (by decide +kernel)) fun h' k hk it' sb=>?_
  have e2:=rv_e2 hi
  rw [e2] at it'
  exact hQ _ _ hx ⟨hi,it',tup_at x.2.2 fun o eo=>(sb.2 t ne).trans eo⟩ ⟨fun b o hb eo=>sb.extBut b o (fun h=>hb (by simp [h])) eo,rfl,rfl,rfl,hk⟩
 done:=fun s Q E x hQ=>by
  have e:=rv_e3 xs.size
  have it:=x.2.1
  rw [e] at it
  exact rv_end hh it fun h' k hk eb=>hQ _ ⟨fun b o hb eo=>eb b o (fun h=>hb (by simp [h])) eo,rfl,rfl,rfl,hk⟩
 self:=fun _ _ _ _ x hQ=>rv_self x.2.1 hQ
theorem rvH (I t:Addr) (xs:Array Value) (hz:xs.size≤y4):Hints prog w A I (fun i s=>i≤xs.size∧IsRv s.heap I t ((xs.size:Int) - 1 - (i:Int))∧IsTup s.heap t xs):=by
 intro s Q E x hQ
 have it:=x.2.1
 rw [show (xs.size:Int) - 1 - ((0:Nat):Int)=(xs.size:Int) - 1 by omega] at it
 exact rv_len it x.2.2 hz hQ
theorem lri_nolen : pp (.type "list_reverseiterator") "__len__" = pure none := by
 rw [vo,xw]
 kernel_rfl
theorem lri_hint : pp (.type "list_reverseiterator") "__length_hint__" = pure (some (.builtin "list_reverseiterator.__length_hint__")) := by
 rw [vo,xw]
 kernel_rfl
theorem lrH (I l:Addr) (xs:Array Value):Hints prog w A I (fun i s=>i≤xs.size∧s.heap.IsRevIter I l ((xs.size:Int) - 1 - (i:Int))∧s.heap.IsList l xs):=by
 intro s Q E x hQ
 have ty:=x.2.1.typeIs
 unfold ue
 refine z6 (u7 ty lri_nolen ?_)
 show wpAny _ A (specialOf (x9 I) (oz "__length_hint__") >>= _) _ _ _
 refine z6 (u7 ty lri_hint ?_)
 generalize hid : ("list_reverseiterator.__length_hint__" : String) = id0
 wp_delta
 rw [show splitId id0 = some ("list_reverseiterator", "__length_hint__") from by subst hid; decide +kernel]
 subst hid
 refine z6 (pj (T := "list_reverseiterator") (b := true) ty (by rw [ul]; kernel_rfl) ?_)
 refine uu (fun hab=>absurd hab (by decide)) (fun _=>?_)
 refine uu (fun _=>?_) (fun hab=>absurd (by decide +kernel) hab)
 refine uu (fun hab=>absurd hab (by decide +kernel)) (fun _=>?_)
 exact zr (hQ _ _ (zf _))
end
theorem items_rev {vs:List Value} {xs:Array Value} (h:ItemsOf (fun i v=>vs.toArray[vs.toArray.size - 1 - i]?=some v) xs vs.toArray.size):xs=vs.reverse.toArray:=by
 have hs:xs.size=vs.length:=by
  have:=h.1
  simpa using this
 apply Array.ext
 ·simp [hs]
 ·intro i h1 h2
  have:=h.2 i xs[i] (Array.getElem?_eq_getElem h1)
  have hl:i < vs.length:=by omega
  simp at this
  have e:vs.reverse[i]?=some xs[i]:=by
   rw [List.getElem?_reverse hl]
   exact this
  simp
  have h3:i < vs.reverse.length:=by simpa using hl
  rw [z9 h3] at e
  simp at e
  exact e.symm
end L2
namespace L2
open PySem PySem.Spec PyProof.Rows
section
variable {X:Cx} {a:Expr} {p p2 pos pos2:Pos} {x y:Str} {T:String} {ta:TE} {r:V→Hp→VK→Prop}
theorem two_lt {h:Heap} {o:Obj} {p b:Addr} (lt:p < h.objs.size) (hb:b∈[h.objs.size,p]):b < (h.push o).objs.size:=by
 rw [ph]
 rcases y6.mp hb with e | e
 ·rw [e]
  exact rj _
 ·rw [ye.mp e]
  exact sy lt
theorem iO (n:Nat):(n:Int) - 1 - ((0:Nat):Int)=(n:Int) - 1:=by omega
noncomputable def RevR (X:Cx) (T:String) (r:V→Hp→VK→Prop):Prop:=∀ (pins:List (Addr × Obj)) (s:Shared) (σ:St) (H:Hp) (v:V) (u:Value) (Q:VK),Inv X pins σ H s→RelV v u→r v H Q →
  wpAny (model X.prog X.w) X.A (call (.type "reversed") [u]) (fun it s1 => wpAny (model X.prog X.w) X.A (call (.type T) [it]) (EP X pins σ Q) X.xe s1) X.xe s
theorem jd (hr : RevR X T r) (hg : Gl X x) (hm : X.mg x = none) (hv : yr x = some (.type T)) (hg2 : Gl X y) (hm2 : X.mg y = none) (hv2 : yr y = some (.type "reversed")) (ha : PE X a ta)
  (hn : x ≠ "__name__") (hdb : (x == ("__debug__" : Str)) = false) (hn2 : y ≠ "__name__") (hdb2 : (y == ("__debug__" : Str)) = false) (hs : zh [.Call (.Name y p2) [a] [] pos2] X.env = [(false, eval (.Call (.Name y p2) [a] [] pos2) X.env)]) (hs2 : zh [a] X.env = [(false, eval a X.env)]) :
  PE X (.Call (.Name x p) [.Call (.Name y p2) [a] [] pos2] [] pos) (tUn r ta):=by
 intro pins s σ H Q I h
 refine uj (gM I hg hm hv ?_ hn hdb)
 refine vh ?_ hs rfl
 rw [hs]
 refine uo ?_
 refine uj (gM I hg2 hm2 hv2 ?_ hn2 hdb2)
 refine vh ?_ hs2 rfl
 rw [hs2]
 refine uo (thn (ha pins s σ H _ I h) fun u s1 hh_=>?_)
 refine zz fun P_ k_=>?_
 obtain ⟨v,H1,I1,r1,q1⟩:=hh_
 refine k_ ?_
 refine rb ?_
 exact thn (hr pins s1 σ H1 v u Q I1 r1 q1) fun it s2 hh=>rb hh
noncomputable def rRevL (K:ze):V→Hp→VK→Prop:=fun v H Q=>∃ p ys,v=.ref p∧(SqL K H p ys∨SqT K H p ys)∧∀ l,H l=none→Q (.ref l) (upd H l (.lst ys.reverse))
noncomputable def rRevT (K:ze):V→Hp→VK→Prop:=fun v H Q=>∃ p ys,v=.ref p∧(SqL K H p ys∨SqT K H p ys)∧∀ l,H l=none→Q (.ref l) (upd H l (.tup ys.reverse))
theorem rev_list (hc : X.calm = true) : RevR X "list" (rRevL X.K) := by
 intro pins s σ H v u Q I rv h
 refine zz fun P_ k_=>?_
 obtain ⟨p,ys,rfl,hq,q⟩:=h
 refine k_ ?_
 subst rv
 have hh:=I.ok.hd hc
 have fin:∀ (its:List Value) (o:Obj) (s':Shared) (xs:Array Value) (c' k:Nat),Vals ys its→ys.length≤y4 →
   Moved [(s.heap.push o).objs.size, s.heap.objs.size] (fun a b => b = a) { s with heap := (s.heap.push o).push { cls := .type "list", data := .seq #[] }, toks := k } s' →
   s'.heap.get? (s.heap.push o).objs.size = some { cls := .type "list", dict := none, data := .seq xs c', slots := #[] } →
   ItemsOf (fun i v=>its.toArray[its.toArray.size - 1 - i]?=some v) xs its.toArray.size→EP X pins σ Q (.ref (s.heap.push o).objs.size) s':=by
  intro its o s' xs c' k r' hz hm hs hx
  have e1:=items_rev hx
  subst e1
  have hle:s.heap.objs.size≤(s.heap.push o).objs.size:=by
   rw [ph]
   exact rf _
  have kp:∀ b w,s.heap.get? b=some w→s'.heap.get? b=some w:=fun b w e=>hm.heap b w (fun z=>by
   have l1:=zt e
   rcases y6.mp z with z | z
   ·rw [z] at l1
    exact v7 _ (zm l1 hle)
   ·rw [ye.mp z] at l1
    exact v7 _ l1) (zb _ (zb _ e))
  rw [Moved.eq_with hm]
  exact ⟨.ref (s.heap.push o).objs.size,_,I.laid (t':=s'.toks) kp hle (show bQ X.prog X.w _ s'.heap _ (.lst ys.reverse) from ⟨by rw [xl]; exact hz,its.reverse,c',r'.reverse,hs⟩),rfl,q _ (I.hok.fresh hle)⟩
 rcases hq with hq | hq
 ·refine zz fun P_ k_=>?_
  obtain ⟨its,r',pl,hz⟩:=I.list hq
  refine k_ ?_
  have pl':=pl.isList
  have lt:p < s.heap.objs.size:=by
   obtain ⟨_,e,_⟩:=pl'
   exact zt e
  have hz':its.toArray.size≤y4:=by
   rw [zn,← r'.length]
   exact hz
  refine call_reversed_list pl' ?_
  refine list_any (Walks.listRev (A:=X.A.in1.in1) hh s.heap.objs.size p (yh lt) its.toArray).toS (fun i s st=>st.2.1.typeIs) (by decide) (by decide) (lrH _ _ _) ⟨xc _, ?_, ?_⟩ ?_ (by simp) (fun s' xs c' hm hs hx=>fin its _ s' xs c' _ r' hz hm hs hx) hz'
  ·rw [iO]
   exact ⟨_,zy _ rfl,rfl,rfl⟩
  ·exact pl'.at fun o e=>zb _ e
  ·exact fun b hb=>two_lt lt hb
 ·refine zz fun P_ k_=>?_
  obtain ⟨its,r',pl,hz⟩:=I.tuple hq
  refine k_ ?_
  have lt:p < s.heap.objs.size:=by
   obtain ⟨_,e,_⟩:=pl
   exact zt e
  have hz':its.toArray.size≤y4:=by
   rw [zn,← r'.length]
   exact hz
  refine fM pl (qx (uz.mpr hz') (by decide +kernel)) ?_
  refine list_any (rvW (A:=X.A.in1.in1) hh s.heap.objs.size p (yh lt) its.toArray hz') (fun i s st=>st.2.1.ty) (by decide) (by decide) (rvH _ _ _ hz') ⟨xc _, ?_, ?_⟩ ?_ (by simp) (fun s' xs c' hm hs hx=>fin its _ s' xs c' _ r' hz hm hs hx) hz'
  ·rw [iO]
   exact ⟨_,zy _ rfl,rfl,rfl⟩
  ·exact tup_at pl fun o e=>zb _ e
  ·exact fun b hb=>two_lt lt hb
theorem rev_tuple (hc : X.calm = true) : RevR X "tuple" (rRevT X.K) := by
 intro pins s σ H v u Q I rv h
 refine zz fun P_ k_=>?_
 obtain ⟨p,ys,rfl,hq,q⟩:=h
 refine k_ ?_
 subst rv
 have hh:=I.ok.hd hc
 have fin:∀ (its:List Value) (o:Obj) (s':Shared) (xs:Array Value) (k:Nat),Vals ys its→ys.length≤y4 →
   Moved [s.heap.objs.size] (fun a b=>b=a) { s with heap:=s.heap.push o,toks:=k } s' →
   ItemsOf (fun i v => its.toArray[its.toArray.size - 1 - i]? = some v) xs its.toArray.size → EP X pins σ Q (.ref s'.heap.objs.size) { s' with heap := s'.heap.push { cls := .type "tuple", data := .seq xs } } := by
  intro its o s' xs k r' hz hm hx
  have e1:=items_rev hx
  subst e1
  have kp:∀ b w,s.heap.get? b=some w→s'.heap.get? b=some w:=fun b w e=>hm.heap b w (fun z=>by
   have l1:=zt e
   rw [ye.mp z] at l1
   exact v7 _ l1) (zb _ e)
  have I1:Inv X pins σ H { s with heap:=s'.heap,toks:=s'.toks }:=I.kept (t':=s'.toks) kp
  have e2 : ({ s' with heap := s'.heap.push { cls := .type "tuple", data := .seq its.reverse.toArray } } : Shared) = { s with heap := s'.heap.push { cls := .type "tuple", data := .seq its.reverse.toArray }, toks := s'.toks } := by
   rw [Moved.eq_with hm]
  rw [e2]
  exact ⟨.ref s'.heap.objs.size,_,I1.laid (t':=s'.toks) (fun b w e=>zb _ e) (zf _) (show bQ X.prog X.w _ _ _ (.tup ys.reverse) from ⟨by rw [xl]; exact hz,its.reverse,r'.reverse,_,zy _ rfl,rfl,_,rfl⟩),rfl,q _ (I1.hok.fresh (zf _))⟩
 rcases hq with hq | hq
 ·refine zz fun P_ k_=>?_
  obtain ⟨its,r',pl,hz⟩:=I.list hq
  refine k_ ?_
  have pl':=pl.isList
  have lt:p < s.heap.objs.size:=by
   obtain ⟨_,e,_⟩:=pl'
   exact zt e
  have hz':its.toArray.size≤y4:=by
   rw [zn,← r'.length]
   exact hz
  refine call_reversed_list pl' ?_
  refine tup_any (Walks.listRev (A:=X.A.in1.in1.in1) hh s.heap.objs.size p (yh lt) its.toArray).toS (fun i s st=>st.2.1.typeIs) (by decide) (by decide) (lrH _ _ _) ⟨xc _, ?_, ?_⟩ ?_ (by simp) (fun s' xs hm hx=>fin its _ s' xs _ r' hz hm hx) hz'
  ·rw [iO]
   exact ⟨_,zy _ rfl,rfl,rfl⟩
  ·exact pl'.at fun o e=>zb _ e
  ·exact fun b hb=>two_lt lt hb
 ·refine zz fun P_ k_=>?_
  obtain ⟨its,r',pl,hz⟩:=I.tuple hq
  refine k_ ?_
  have lt:p < s.heap.objs.size:=by
   obtain ⟨_,e,_⟩:=pl
   exact zt e
  have hz':its.toArray.size≤y4:=by
   rw [zn,← r'.length]
   exact hz
  refine fM pl (qx (uz.mpr hz') (by decide +kernel)) ?_
  refine tup_any (rvW (A:=X.A.in1.in1.in1) hh s.heap.objs.size p (yh lt) its.toArray hz') (fun i s st=>st.2.1.ty) (by decide) (by decide) (rvH _ _ _ hz') ⟨xc _, ?_, ?_⟩ ?_ (by simp) (fun s' xs hm hx=>fin its _ s' xs _ r' hz hm hx) hz'
  ·rw [iO]
   exact ⟨_,zy _ rfl,rfl,rfl⟩
  ·exact tup_at pl fun o e=>zb _ e
  ·exact fun b hb=>two_lt lt hb
end
end L2
namespace Vi
open PySem PySem.Spec PyProof.Rows L2
section
variable {X:Cx} {cl:Nat→Addr} {M:Tab} {a:Expr} {pos p p2 pos2:Pos} {a':E} {x y:Str} {st:Stmt} {sts:List Stmt} {s':S} {ss:List S}
theorem ju {l:List D} (h:immL l=true):immL l.reverse=true:=eB.mpr fun d hd=>eB.mp h d (xp.mp hd)
theorem kd_flat {l:List D} (h:immL l=true):kdOf (.lst l)=.sto []:=if_pos h
inductive SqOf (M:Tab) (a':E) (ρ:Env) (l:List D):Prop
 | lst (kx:Kd) (h:runE M a' ρ=.ok (.lst l,kx))
 | tup (kx:Kd) (h:runE M a' ρ=.ok (.tup l,kx))
inductive RevO (M:Tab) (a':E) (ρ:Env) (d:D) (k:Kd) (f:List D→D):Prop
 | mk (l:List D) (q:SqOf M a' ρ l) (him:immL l=true) (e1:d=f l.reverse) (e2:k=.sto [])
inductive BiO (M:Tab) (b:Bi) (e:E) (ρ:Env) (d:D) (k:Kd):Prop
 | mk (y:D) (ky:Kd) (h1:runE M e ρ=.ok (y,ky)) (h2:biD b [y]=.ok d) (h3:k=kdOf d)
theorem bi_ok {b:Bi} {e:E} {ρ:Env} {d:D} {k:Kd} (h:runE M (.bi b [e]) ρ=.ok (d,k)):BiO M b e ρ d k:=by
 rw [rE_bi] at h
 refine zz fun P_ k_=>?_
 obtain ⟨⟨xs,ks⟩,g2,h⟩:=R.bind_ok h
 obtain ⟨r,g3,h⟩:=R.bind_ok h
 obtain ⟨rfl,rfl⟩:=okp h
 rw [dS] at g2
 obtain ⟨⟨y,ky⟩,g4,g2⟩:=R.bind_ok g2
 simp only [eV,R.ok_bind] at g2
 obtain ⟨rfl,_⟩:=okp g2
 refine k_ ?_
 exact ⟨y,ky,g4,g3,rfl⟩
theorem run_lrev {ρ:Env} {d:D} {k:Kd} (h:runE M (.bi .list [.rev a']) ρ=.ok (d,k)):RevO M a' ρ d k .lst:=by
 refine zz fun P_ k_=>?_
 obtain ⟨y,ky,g4,g3,rfl⟩:=bi_ok h
 have go:∀ (l:List D) (c:List D→D) (kz:Kd),(if immL l=true then R.ok (c l.reverse,Kd.sto []) else .bad)=.ok (y,ky)→(∀ m,immL m=true→biD .list [c m]=.ok (.lst m))→SqOf M a' ρ l→RevO M a' ρ d (kdOf d) .lst:=fun l c kz g hb q=>by
  split at g
  ·rename_i him
   obtain ⟨rfl,rfl⟩:=okp g
   rw [hb _ (ju him)] at g3
   injection g3 with g3
   subst g3
   exact ⟨l,q,him,rfl,kd_flat (ju him)⟩
  ·injection g
 rw [ic] at g4
 obtain ⟨⟨z,kz⟩,g5,g4⟩:=R.bind_ok g4
 refine k_ ?_
 cases z with
 | lst l=>exact go l .lst kz g4 (fun m hm=>by rw [gZ,if_pos hm]) (.lst kz g5)
 | tup l=>exact go l .tup kz g4 (fun m hm=>by rw [biD_20,if_pos hm]) (.tup kz g5)
 | _=>injection g4
theorem run_trev {ρ:Env} {d:D} {k:Kd} (h:runE M (.bi .tuple [.bi .list [.rev a']]) ρ=.ok (d,k)):RevO M a' ρ d k .tup:=by
 refine zz fun P_ k_=>?_
 obtain ⟨y,ky,g4,g3,rfl⟩:=bi_ok h
 obtain ⟨l,q,him,rfl,rfl⟩:=run_lrev g4
 refine k_ ?_
 rw [gY,if_pos (ju him)] at g3
 injection g3 with g3
 subst g3
 exact ⟨l,q,him,rfl,if_pos (ju him)⟩
theorem g_lrev (hc : X.calm = true) (hg : Gl X x) (hm : X.mg x = none) (hv : yr x = some (.type "list")) (hg2 : Gl X y) (hm2 : X.mg y = none) (hv2 : yr y = some (.type "reversed"))
  (hn : x ≠ "__name__") (hdb : (x == ("__debug__" : Str)) = false) (hn2 : y ≠ "__name__") (hdb2 : (y == ("__debug__" : Str)) = false) (hs : zh [.Call (.Name y p2) [a] [] pos2] X.env = [(false, eval (.Call (.Name y p2) [a] [] pos2) X.env)]) (hs2 : zh [a] X.env = [(false, eval a X.env)]) (ha : GE X cl M a a') :
  GE X cl M (.Call (.Name x p) [.Call (.Name y p2) [a] [] pos2] [] pos) (.bi .list [.rev a']):=fun ρ d k h=>by
 refine zz fun P_ k_=>?_
 obtain ⟨l,q,him,rfl,rfl⟩:=run_lrev h
 refine k_ ?_
 have fin:∀ {ρ:Env} {F:Nat→List Addr} {H H0 H1:Hp} {Q:VK} {vs:List V} {g:List Addr} (s1:Same H H1) (q:∀ v H' fp,Same H H'→Rep cl H' (.lst l.reverse) v fp→KOk ρ F H H0 H' fp (.sto [])→Q v H') (hl:RepL cl H1 l vs g),∀ q1,H1 q1=none→Q (.ref q1) (upd H1 q1 (.lst vs.reverse)):=by
  intro ρ F H H0 H1 Q vs g s1 q hl q1 hq
  have sn:=Same.new (o:=HO.lst vs.reverse) hq
  refine q (.ref q1) _ [q1] (s1.trans sn) ?_ ((cw.one hq (fI (o:=.lst vs.reverse) (by intro _ _ z; injection z))).k s1)
  unfold Rep
  exact ⟨q1,_,[],rfl,rfl,(hl.reverse him).same sn,.inl ai⟩
 cases q with
 | lst kx g1 =>
  refine aT (jd (rev_list hc) hg hm hv hg2 hm2 hv2 (ha ρ _ kx g1) hn hdb hn2 hdb2 hs hs2) fun σ H Q hh_=>?_
  refine zz fun P_ k_=>?_
  obtain ⟨H0,F,S,q⟩:=hh_
  refine k_ ?_
  refine ⟨H0,F,S,fun v H1 fp s1 r1 _=>?_⟩
  refine zz fun P_ k_=>?_
  obtain ⟨p,vs,g,e,hs,hl⟩:=bz (K:=X.K) r1
  refine k_ ?_
  exact ⟨p,vs,e,.inl hs,fin s1 q hl⟩
 | tup kx g1 =>
  refine aT (jd (rev_list hc) hg hm hv hg2 hm2 hv2 (ha ρ _ kx g1) hn hdb hn2 hdb2 hs hs2) fun σ H Q hh_=>?_
  refine zz fun P_ k_=>?_
  obtain ⟨H0,F,S,q⟩:=hh_
  refine k_ ?_
  refine ⟨H0,F,S,fun v H1 fp s1 r1 _=>?_⟩
  refine zz fun P_ k_=>?_
  obtain ⟨p,vs,e,hs,hl⟩:=cJ (K:=X.K) r1
  refine k_ ?_
  exact ⟨p,vs,e,.inr hs,fin s1 q hl⟩
theorem g_trev (hc : X.calm = true) (hg : Gl X x) (hm : X.mg x = none) (hv : yr x = some (.type "tuple")) (hg2 : Gl X y) (hm2 : X.mg y = none) (hv2 : yr y = some (.type "reversed"))
  (hn : x ≠ "__name__") (hdb : (x == ("__debug__" : Str)) = false) (hn2 : y ≠ "__name__") (hdb2 : (y == ("__debug__" : Str)) = false) (hs : zh [.Call (.Name y p2) [a] [] pos2] X.env = [(false, eval (.Call (.Name y p2) [a] [] pos2) X.env)]) (hs2 : zh [a] X.env = [(false, eval a X.env)]) (ha : GE X cl M a a') :
  GE X cl M (.Call (.Name x p) [.Call (.Name y p2) [a] [] pos2] [] pos) (.bi .tuple [.bi .list [.rev a']]):=fun ρ d k h=>by
 refine zz fun P_ k_=>?_
 obtain ⟨l,q,him,rfl,rfl⟩:=run_trev h
 refine k_ ?_
 have fin:∀ {ρ:Env} {F:Nat→List Addr} {H H0 H1:Hp} {Q:VK} {vs:List V} {g:List Addr} (s1:Same H H1) (q:∀ v H' fp,Same H H'→Rep cl H' (.tup l.reverse) v fp→KOk ρ F H H0 H' fp (.sto [])→Q v H') (hl:RepL cl H1 l vs g),∀ q1,H1 q1=none→Q (.ref q1) (upd H1 q1 (.tup vs.reverse)):=by
  intro ρ F H H0 H1 Q vs g s1 q hl q1 hq
  have sn:=Same.new (o:=HO.tup vs.reverse) hq
  refine q (.ref q1) _ [] (s1.trans sn) ?_ KOk.nil0
  unfold Rep
  exact ⟨q1,_,rfl,ai,(hl.reverse him).same sn⟩
 cases q with
 | lst kx g1 =>
  refine aT (jd (rev_tuple hc) hg hm hv hg2 hm2 hv2 (ha ρ _ kx g1) hn hdb hn2 hdb2 hs hs2) fun σ H Q hh_=>?_
  refine zz fun P_ k_=>?_
  obtain ⟨H0,F,S,q⟩:=hh_
  refine k_ ?_
  refine ⟨H0,F,S,fun v H1 fp s1 r1 _=>?_⟩
  refine zz fun P_ k_=>?_
  obtain ⟨p,vs,g,e,hs,hl⟩:=bz (K:=X.K) r1
  refine k_ ?_
  exact ⟨p,vs,e,.inl hs,fin s1 q hl⟩
 | tup kx g1 =>
  refine aT (jd (rev_tuple hc) hg hm hv hg2 hm2 hv2 (ha ρ _ kx g1) hn hdb hn2 hdb2 hs hs2) fun σ H Q hh_=>?_
  refine zz fun P_ k_=>?_
  obtain ⟨H0,F,S,q⟩:=hh_
  refine k_ ?_
  refine ⟨H0,F,S,fun v H1 fp s1 r1 _=>?_⟩
  refine zz fun P_ k_=>?_
  obtain ⟨p,vs,e,hs,hl⟩:=cJ (K:=X.K) r1
  refine k_ ?_
  exact ⟨p,vs,e,.inr hs,fin s1 q hl⟩
theorem gs_lnd {j:Nat} (h:GS X cl M st s'):GS X cl M st (.lnd j [s']):=fun ρ=>by
 rw [rS_lnd]
 have ea:asgs [s']=asg s':=xf _
 show PS X st (tSd cl ρ (asgs [s']) _)
 rw [ea,jb,show ((runS M s' (ao ρ (.sto [j]))).bind fun ρ'=>al M [] ρ')=runS M s' (ao ρ (.sto [j])) by cases runS M s' (ao ρ (.sto [j])) <;> rfl]
 refine cz (h (ao ρ (.sto [j]))) fun D σ H hh=>?_
 refine zz fun P_ k_=>?_
 obtain ⟨H0,F,S,q⟩:=hh
 refine k_ ?_
 have L:=fu ρ (.sto [j])
 refine ⟨_,F,S.rebase L, ?_⟩
 cases hf:runS M s' (ao ρ (.sto [j])) with
 | nx ρ3 =>
  rw [hf] at q
  exact fun σ3 H3 F3 S3 h3=>by obtain ⟨F4,S4⟩:=S.restore L S3 h3; exact q σ3 H3 F4 S4 h3
 | bk ρ3 =>
  rw [hf] at q
  exact fun σ3 H3 F3 S3 h3=>by obtain ⟨F4,S4⟩:=S.restore L S3 h3; exact q σ3 H3 F4 S4 h3
 | ct ρ3 =>
  rw [hf] at q
  exact fun σ3 H3 F3 S3 h3=>by obtain ⟨F4,S4⟩:=S.restore L S3 h3; exact q σ3 H3 F4 S4 h3
 | rt r =>
  rw [hf] at q
  refine fun v H3 fp s3 r3 n3 h3=>q v H3 fp (fun b o hbo=>s3 b o ((dP S L (by rw [hbo]; intro z; injection z)).trans hbo)) r3 n3 fun a ha=>⟨?_,(h3 a ha).2⟩
  cases qa:H0 a with
  | none=>rfl
  | some y =>
   have:=dP S L (a:=a) (by rw [qa]; intro z; injection z)
   rw [(h3 a ha).1,qa] at this
   injection this
 | ex z=>rw [hf] at q; exact q
 | bad=>rw [hf] at q; exact q
end
end Vi
namespace L2
open PySem PySem.Spec PyProof.Rows
section
variable {X:Cx}
inductive Thw (H:Hp) (Q:Hp→Prop) (H':Hp):Prop
 | mk (a:Addr) (kvs:List (Key × V)) (o:Obj) (h:H' a=some (.frz o (.dK kvs))) (n:∀ ob u,H a≠some (.frz ob u)) (q:Q (upd H' a (.dK kvs)))
noncomputable def thawS (H:Hp) (D:Ends):Ends:=⟨fun σ' H'=>D.nx σ' H'∨Thw H (D.nx σ') H',fun v H'=>D.rt v H'∨Thw H (D.rt v) H',fun σ' H'=>D.bk σ' H'∨Thw H (D.bk σ') H',fun σ' H'=>D.ct σ' H'∨Thw H (D.ct σ') H'⟩
theorem ps_thawS {st:Stmt} {t:TS} (h:PS X st t):PS X st (fun D σ H=>t (thawS H D) σ H):=fun pins s σ H D I q=>by
 have go:∀ {Q:St→Hp→Prop} {s':Shared},NP X pins (fun σ' H'=>Q σ' H'∨Thw H (Q σ') H') s'→NP X pins Q s':=fun {Q s'} z=>by
  refine zz fun P_ k_=>?_
  obtain ⟨σ',H',I',q⟩:=z
  refine k_ ?_
  rcases q with q | ⟨a,kvs,o,hq,nb,q⟩
  ·exact ⟨σ',H',I',q⟩
  ·exact ⟨σ',_,I'.thaw hq (fun ob u z=>nb ob u (I.base.frzs a ob u z)),q⟩
 refine thn (h pins s σ H _ I q) fun f s' z=>?_
 cases f with
 | next=>exact go z
 | cont=>exact go z
 | brk=>exact go z
 | ret u =>
  refine zz fun P_ k_=>?_
  obtain ⟨v,σ',H',I',r,q⟩:=z
  refine k_ ?_
  rcases q with q | ⟨a,kvs,o,hq,nb,q⟩
  ·exact ⟨v,σ',H',I',r,q⟩
  ·exact ⟨v,σ',_,I'.thaw hq (fun ob u z=>nb ob u (I.base.frzs a ob u z)),r,q⟩
end
end L2
namespace Vi
open PySem PySem.Spec PyProof.Rows L2
section
variable {X:Cx} {cl:Nat→Addr} {ρ ρl ρ':Env} {k:Kd} {tg wb ws:List Nat} {one:Bool} {g:TG} {tgE iter:Expr} {H H0 H1 H':Hp} {F:Nat→List Addr} {σ:L2.St} {a:Addr} {o:Obj} {kvs:List (Key × V)}
theorem SOK.frz1 (S:SOK cl H0 ρ F σ H1) (ha:H1 a=some (.dK kvs)) (h0:H0 a≠none):SOK cl (upd H0 a (.frz o (.dK kvs))) ρ F σ (upd H1 a (.frz o (.dK kvs))):=by
 refine ⟨fun b u e=>?_,S.len,fun j d ob h=>?_,fun j d h=>⟨(S.own j d h).1,fun b hb=>?_⟩,S.dis,fun j d h b hb=>?_⟩
 ·by_cases hb:b=a
  ·subst hb
   rw [ai] at e ⊢
   exact e
  ·rw [ah hb] at e ⊢
   exact S.same b u e
 ·obtain ⟨v,h1,r⟩:=S.rep j d ob h
  exact ⟨v,h1,r.keepL (freezeL ha _)⟩
 ·obtain ⟨n1,n2⟩:=(S.own j d h).2 b hb
  have hb:b≠a:=fun z=>h0 (by rw [← z]; exact n1)
  exact ⟨by rw [ah hb]; exact n1,fun ob u w=>n2 ob u (by rw [ah hb] at w; exact w)⟩
 ·by_cases hb':b=a
  ·rw [hb',ai]
   intro z
   injection z
  ·rw [ah hb']
   exact S.old j d h b hb
theorem thawL (hf:H' a=some (.frz o (.dK kvs))) (f:List Addr):g8 f H' (upd H' a (.dK kvs)):=by
 refine ⟨fun c _=>?_,fun c vs z=>?_⟩
 ·by_cases hc:c=a
  ·subst hc
   exact .inr ⟨o,kvs,.inr ⟨hf,ai⟩⟩
  ·exact .inl (ah hc)
 ·rw [ah (fun w=>by rw [w,hf] at z; (injection z with z; injection z))]
  exact z
theorem same_thw (s:Same (upd H0 a (.frz o (.dK kvs))) H') (h0:H0 a=some (.dK kvs)):Same H0 (upd H' a (.dK kvs)):=fun b u e=>by
 by_cases hb:b=a
 ·subst hb
  rw [ai]
  exact h0.symm.trans e
 ·rw [ah hb]
  exact s b u (by rw [ah hb]; exact e)
theorem nf_thw {b:Addr} (s:Same (upd H0 a (.frz o (.dK kvs))) H') (n:upd H0 a (.frz o (.dK kvs)) b=none∧NF H' b):H0 b=none∧NF (upd H' a (.dK kvs)) b:=by
 have hb:b≠a:=fun z=>by
  have:=n.1
  rw [z,ai] at this
  injection this
 have n1:=n.1
 rw [ah hb] at n1
 exact ⟨n1,fun ob u w=>n.2 ob u (by rw [ah hb] at w; exact w)⟩
theorem SOK.thw1 (S:SOK cl (upd H0 a (.frz o (.dK kvs))) ρ F σ H') (h0:H0 a=some (.dK kvs)):SOK cl H0 ρ F σ (upd H' a (.dK kvs)):=by
 have hf:H' a=some (.frz o (.dK kvs)):=S.same a _ ai
 refine ⟨same_thw S.same h0,S.len,fun j d ob h=>?_,fun j d h=>⟨(S.own j d h).1,fun b hb=>nf_thw S.same ((S.own j d h).2 b hb)⟩,S.dis,fun j d h b hb=>?_⟩
 ·obtain ⟨v,h1,r⟩:=S.rep j d ob h
  exact ⟨v,h1,r.keepL (thawL hf _)⟩
 ·have z:=S.old j d h b hb
  by_cases hb':b=a
  ·rw [hb',h0]
   intro z
   injection z
  ·rw [ah hb'] at z
   exact z
noncomputable def rOwn (e:Option (D × Bool)):Option (D × Bool):=match e with
 | some (d,true)=>some (d,true)
 | _=>none
noncomputable def rWs (e:Option (D × Bool)):Option (D × Bool):=match e with
 | some (d,true)=>some (d,true)
 | some (d,false)=>if d.imm=true then some (d,true) else none
 | none=>none
noncomputable def rOth (m:Option (Option (D × Bool))) (x e:Option (D × Bool)):Option (D × Bool):=match m with
 | some (some (_,false))=>x
 | _=>rOwn e
theorem rWs_two (e:Option (D × Bool)):rWs (rWs e)=rWs e:=by
 rcases e with _ | ⟨d,_ | _⟩
 ·rfl
 ·show rWs (if d.imm=true then some (d,true) else none)=if d.imm=true then some (d,true) else none
  split <;> rfl
 ·rfl
theorem rOth_two (m:Option (Option (D × Bool))) (x y e:Option (D × Bool)):rOth m x (rOth m y e)=rOth m x e:=by
 have h:rOwn (rOwn e)=rOwn e:=by rcases e with _ | ⟨d,_ | _⟩ <;> rfl
 rcases m with _ | _ | ⟨d,_ | _⟩
 ·exact h
 ·exact h
 ·rfl
 ·exact h
theorem rest_is:rest ρ ρl ρ' ws=ρ'.mapIdx fun j e=>if ws.contains j=true then rWs e else rOth ρl[j]? (match ρ[j]? with | some x=>x | none=>none) e:=rfl
theorem rest_rest:rest ρ ρl (rest ρl ρl ρ' ws) ws=rest ρ ρl ρ' ws:=by
 rw [rest_is,rest_is,rest_is,List.mapIdx_mapIdx]
 congr 1
 funext j e
 show (if ws.contains j=true then rWs (if ws.contains j=true then rWs e else _) else rOth _ _ (if ws.contains j=true then _ else _))=_
 by_cases hj:ws.contains j=true
 ·rw [if_pos hj,if_pos hj,if_pos hj]
  exact rWs_two e
 ·rw [if_neg hj,if_neg hj,if_neg hj]
  exact rOth_two _ _ _ e
theorem post_inl {D':Ends} {o:Out} {H2:Hp} (q:dG cl H0 σ ws D' o):dG cl H0 σ ws (thawS H2 D') o:=by
 cases o with
 | nx r=>exact fun σ' H' F' S' h=>.inl (q σ' H' F' S' h)
 | bk r=>exact fun σ' H' F' S' h=>.inl (q σ' H' F' S' h)
 | ct r=>exact fun σ' H' F' S' h=>.inl (q σ' H' F' S' h)
 | rt d=>exact fun v H' fp s' r n h=>.inl (q v H' fp s' r n h)
 | ex z=>exact q
 | bad=>exact q
theorem post_thw {D':Ends} {out:Out} (S1:SOK cl H0 ρ F σ H1) (L:Lent ρ ρl) (hr:reb H1 ρl F a=some (.dK kvs)) (nb:∀ ob u,H a≠some (.frz ob u)) (q:dG cl H0 σ ws D' (fS ρ ρl ws out)) :
  dG cl (upd (reb H1 ρl F) a (.frz o (.dK kvs))) σ ws (thawS H D') (fS ρl ρl ws out):=by
 have go:∀ {Q:L2.St→Hp→Prop} {ρ':Env},(∀ σ' H' F',SOK cl H0 (rest ρ ρl ρ' ws) F' σ' H'→(∀ j,j∉ws→σ'[j]?=σ[j]?)→Q σ' H') →
   ∀ σ' H' F',SOK cl (upd (reb H1 ρl F) a (.frz o (.dK kvs))) (rest ρl ρl ρ' ws) F' σ' H'→(∀ j,j∉ws→σ'[j]?=σ[j]?)→Q σ' H'∨Thw H (Q σ') H':=fun {Q ρ'} q σ' H' F' S' h=>by
  obtain ⟨F2,S2⟩:=S1.restore L (S'.thw1 hr) h
  rw [rest_rest] at S2
  exact .inr ⟨a,kvs,o,S'.same a _ ai,nb,q σ' _ F2 S2 h⟩
 cases out with
 | nx r=>exact go q
 | bk r=>exact go q
 | ct r=>exact go q
 | rt d =>
  refine fun v H' fp s' r n h=>.inr ⟨a,kvs,o,s' a _ ai,nb,q v _ fp (fun b u e=>same_thw s' hr b u ?_) (r.keepL (thawL (s' a _ ai) _)) n fun b hb=>?_⟩
  ·exact (dP S1 L (by rw [e]; intro z; injection z)).trans e
  ·obtain ⟨n1,n2⟩:=nf_thw s' (h b hb)
   refine ⟨?_,n2⟩
   cases qa:H0 b with
   | none=>rfl
   | some y =>
    have:=dP S1 L (a:=b) (by rw [qa]; intro z; injection z)
    rw [n1,qa] at this
    injection this
 | ex z=>exact q
 | bad=>exact q
theorem s_forD {body:List Stmt} {pos:Pos} {l:List (Key × D)} {f:Env→Out} (hp:xt (model X.prog X.w) X.A X.env X.xe) (hc:X.calm=true) (hi:PE X iter (tD cl ρ (.dK l) k)) (hn:noBor k=true) (hg:PG X tgE g) (hB:dn cl tg one g)
  (hb:∀ ρ,PSs X body (tSd cl ρ wb (f ρ))) (hs:∀ x,w5 iter X.env x=pure x) :
  PS X (.For tgE iter body [] pos) (tSd cl ρ (tg++wb) (fS ρ (ao ρ k) (tg++wb) (forL (bC tg one f) (l.map fun kv=>keyD kv.1) (ao ρ k)))):=by
 have hb':PSs X body (fun D σ H=>∃ ρ,tSd cl ρ wb (f ρ) D σ H):=fun pins s σ H Q I ⟨ρ,h⟩=>hb ρ pins s σ H Q I h
 refine cz (ps_thawS (ps_for hp hc (pi_dict hi) hg hb' hs)) fun D σ H hh_=>?_
 refine zz fun P_ k_=>?_
 obtain ⟨H0,F,S,q⟩:=hh_
 refine k_ ?_
 refine ⟨H0,F,S,fun x H1 fp s1 r1 q1=>?_⟩
 refine zz fun P_ k_=>?_
 obtain ⟨a,f1,kvs,e,ef,ha,hks,rm⟩:=r1
 refine k_ ?_
 have S1:=S.step s1
 have L:=fu ρ k
 have off:=walk_off S q1 hn s1 a (by rw [ef]; exact za)
 refine ⟨a,kvs,e, ?_⟩
 rcases ha with ha | ⟨o,ha⟩
 ·refine .inr ⟨ha,fun o=>?_⟩
  have hr:reb H1 (ao ρ k) F a=some (.dK kvs):=off.trans ha
  have S2:=(S1.rebase L).frz1 (o:=o) ha (by rw [hr]; intro z; injection z)
  have jj:=jgo (cl:=cl) (l:=l) (a:=a) (o:=o) (kvs:=kvs) hks (B:=reb (upd H1 a (.frz o (.dK kvs))) (ao (ao ρ k) .old) F) ?_
  ·refine jB (k:=.old) S2 hB jj.go jj.yld jj.stop (post_thw S1 L hr (fun ob u z=>?_) q)
   have:=s1 a _ z
   rw [ha] at this
   (injection this with this; injection this)
  ·rw [dt fun j d hj haj=>?_]
   ·exact ai
   ·have:=((S1.rebase L).own j d hj).2 a haj
    rw [hr] at this
    have:=this.1
    injection this
 ·refine .inl ⟨o,ha, ?_⟩
  have jj:=jgo (cl:=cl) (l:=l) (a:=a) (o:=o) (kvs:=kvs) hks (B:=reb H1 (ao ρ k) F) (off.trans ha)
  exact jB S1 hB jj.go jj.yld jj.stop (post_inl q)
end
section
variable {X:Cx} {cl:Nat→Addr} {M:Tab} {sa:List Stmt} {sa':List S} {pos:Pos} {a':E}
theorem gs_forD {tgE iter:Expr} {tg:List Nat} {one:Bool} {g:TG} (hp:xt (model X.prog X.w) X.A X.env X.xe) (hc:X.calm=true) (hs:∀ x,w5 iter X.env x=pure x) (hi:GE X cl M iter a') (hg:PG X tgE g) (hB:dn cl tg one g) (hb:GSs X cl M sa sa') :
  GS X cl M (.For tgE iter sa [] pos) (.for tg one .keys [a'] sa'):=fun ρ=>by
 rw [rS_for]
 cases hr:runI M .keys [a'] ρ with
 | ok q =>
  obtain ⟨xs,k⟩:=q
  simp only [ofR]
  split
  ·exact bt
  ·rename_i hn
   have hn:noBor k=true:=by simpa using hn
   obtain ⟨l,g3,rfl⟩:=jh hr
   exact s_forD hp hc (hi ρ _ k g3) hn hg hB (fun ρ=>hb ρ) hs
 | ex z=>exact s_ex
 | bad=>exact bt
end
end Vi
namespace K12
open Vi
open PySem (Str)
noncomputable def fB:Fn:=⟨1,4,[
 .set 1 (.dnew false),
 .set 2 (.lst []),
 .for [3] true .each [(.var 0)] [.ifs (.cmp .mem (.var 3) (.var 1)) [.app 2 (.var 3)] [],.put 1 (.var 3) (.bl true)],
 .ret (.var 2)]⟩
noncomputable def cy:Fn:=⟨3,7,[
 .set 3 (.bin .add (.comp (.ix (.var 4) (.int 0)) [4] true .each [(.var 0)] (.bl true)) (.comp (.ix (.var 5) (.int 0)) [5] true .each [(.var 1)] (.bl true))),
 .set 6 (.bin .add (.call 0 [(.var 3)]) (.call 0 [(.var 2)])),
 .ifs (.var 6) [.raise] []]⟩
noncomputable def cG:Fn:=⟨2,3,[
 .for [2] true .each [(.bi .sorted [(.var 1)])] [.ifs (.cmp .ne (.bi .len [(.get2 (.var 0) (.var 2) (.tup []))]) (.int 2)) [.raise] []]]⟩
noncomputable def cm:Fn:=⟨2,7,[
 .set 2 (.dnew true),
 .set 3 (.lst []),
 .for [4] true .each [(.bi .sorted [(.var 0)])] [.set 5 (.dix (.var 0) (.var 4)),.ifs (.and (.cmp .eq (.bi .len [(.var 5)]) (.int 2)) (.cmp .nmem (.var 4) (.var 1))) [.ifs (.cmp .mem (.var 5) (.var 2)) [.app 3 (.tup [(.dix (.var 2) (.var 5)),(.var 4)])] [.put 2 (.var 5) (.var 4)]] []],
 .ifs (.var 3) [.raise] [],
 .ret (.var 2)]⟩
noncomputable def db:Fn:=⟨1,7,[
 .set 1 (.dnew false),
 .set 2 (.bi .sorted [(.var 0)]),
 .whl 1000000 (.var 2) [.set 3 (.lst []),.for [4] true .each [(.var 2)] [.set 5 (.dix (.var 0) (.var 4)),.ifs (.bi .any [(.comp (.and (.cmp .mem (.var 6) (.var 0)) (.cmp .nmem (.var 6) (.var 1))) [6] true .each [(.var 5)] (.bl true))]) [.app 3 (.var 4)] [.put 1 (.var 4) (.bi .sum [(.comp (.get2 (.var 1) (.var 6) (.int 1)) [6] true .each [(.var 5)] (.bl true))])]],.ifs (.cmp .eq (.var 3) (.var 2)) [.raise] [],.set 2 (.var 3)],
 .ret (.var 1)]⟩
noncomputable def cv:Fn:=⟨1,2,[
 .for [1] true .each [(.bi .sorted [(.var 0)])] [.ifs (.cmp .gt (.dix (.var 0) (.var 1)) (.glb (.int 16))) [.raise] []]]⟩
noncomputable def cC:Fn:=⟨4,5,[
 .expr (.call 1 [(.var 1),(.var 2),(.var 3)]),
 .fset "rank_by_sign" (.bi .dict [(.var 1)]),
 .fset "row_by_sign" (.bi .dict [(.var 2)]),
 .fset "shut_by_sign" (.bi .dict [(.comp (.tup [(.var 4), (.bl true)]) [4] true .each [(.var 3)] (.bl true))]),
 .expr (.call 2 [(.fld (.var 0) "row_by_sign"), (.var 3)]),
 .fset "sign_by_pair" (.call 3 [(.fld (.var 0) "row_by_sign"), (.fld (.var 0) "shut_by_sign")]),
 .expr (.call 5 [(.call 4 [(.fld (.var 0) "row_by_sign")])])]⟩
noncomputable def nofn:Nat→List D→R D:=fun _ _=>.bad
noncomputable def t0:Tab:=⟨nofn,nofn⟩
noncomputable def de:=fB.run t0
noncomputable def t1:Tab:=⟨fun i=>match i with | 0=>de | _=>fun _=>.bad,nofn⟩
noncomputable def bR:=cy.run t1
noncomputable def bE:=cG.run t0
noncomputable def bM:=cm.run t0
noncomputable def bS:=db.run t0
noncomputable def bv:=cv.run t0
noncomputable def t2:Tab:=⟨fun i=>match i with | 1=>bR | 2=>bE | 3=>bM | 4=>bS | 5=>bv | _=>fun _=>.bad,nofn⟩
noncomputable def dR:=cC.init t2 0
end K12
namespace K21
open Vi
open PySem (Str)
noncomputable def bX:Fn:=⟨2,2,[
 .ret (.get1 (.fld (.var 0) "row_by_sign") (.var 1))]⟩
noncomputable def gm:Fn:=⟨2,6,[
 .set 2 (.lst []),
 .set 3 (.rev (.var 1)),
 .whl 1000000 (.var 3) [.pop 4 3, .set 5 (.meth 7 "row" (.var 0) [(.var 4)]), .ifs (.cmp .isN (.var 5) .non) [.app 2 (.var 4)] [.ext 3 (.rev (.var 5))]],
 .ret (.var 2)]⟩
noncomputable def jD:Fn:=⟨2,3,[
 .set 2 (.bin .add (.sl (.var 0) (.var 1) (.bin .add (.var 1) (.int 1))) (.lst [(.int 0)])),
 .ret (.ix (.var 2) (.int 0))]⟩
noncomputable def fD:Fn:=⟨1,1,[
 .ifs (.or (.isB (.var 0) true) (.isB (.var 0) false)) [.ret (.bl false)] [],
 .ret (.bi .isInt [(.var 0)])]⟩
noncomputable def f_l_mix:Fn:=⟨3,3,[
 .ret (.bin .mod (.bin .add (.bin .add (.bin .mul (.var 0) (.var 2)) (.bin .mul (.var 1) (.int 2654435))) (.int 40503)) (.int 2147483629))]⟩
noncomputable def jC:Fn:=⟨2,3,[
 .set 2 (.bin .mod (.bin .add (.var 0) (.var 1)) (.int 3)),
 .ifs (.cmp .eq (.var 2) (.int 0)) [.ret (.bin .add (.var 0) (.bin .mod (.bin .fdiv (.var 1) (.int 3)) (.int 5)))] [],
 .ifs (.cmp .eq (.var 2) (.int 1)) [.ret (.bin .sub (.bin .sub (.bin .pow (.int 10) (.int 60)) (.int 1)) (.bin .mul (.int 3) (.var 0)))] [],
 .ret (.bin .add (.bin .mul (.bin .add (.var 0) (.int 1)) (.bin .pow (.int 10) (.int 40))) (.bin .mod (.bin .fdiv (.var 1) (.int 15)) (.bin .pow (.int 10) (.int 30))))]⟩
noncomputable def gS:Fn:=⟨2,3,[
 .ifs (.or (.cmp .eq (.var 1) (.int 0)) (.cmp .lt (.bin .mod (.var 0) (.int 5)) (.int 2))) [.ret (.lst [])] [],
 .set 2 (.bin .mod (.bin .fdiv (.var 0) (.int 5)) (.var 1)),
 .ifs (.cmp .eq (.bin .mod (.bin .fdiv (.var 0) (.int 35)) (.int 2)) (.int 1)) [.set 2 (.bin .sub (.var 1) (.int 1))] [],
 .ifs (.cmp .eq (.bin .mod (.var 0) (.int 5)) (.int 2)) [.ret (.lst [(.var 2)])] [],
 .ret (.lst [(.var 2),(.bin .mod (.bin .fdiv (.var 0) (.int 70)) (.var 1))])]⟩
noncomputable def cB:Fn:=⟨2,16,[
 .set 2 (.lst []),
 .set 3 (.dnew false),
 .set 4 (.dnew false),
 .set 5 (.lst []),
 .set 6 (.lst []),
 .for [7,8] false .enum [(.var 0)] [.set 9 (.call 12 [(.var 8),(.var 7),(.int 48271)]),.set 10 (.call 13 [(.var 7),(.var 1)]),.app 2 (.var 10),.set 11 (.call 14 [(.var 9),(.var 7)]),.set 12 (.bi .sum [(.comp (.ix (.var 6) (.var 13)) [13] true .each [(.var 11)] (.bl true))]),.ifs (.or (.cmp .eq (.var 11) (.lst [])) (.cmp .gt (.var 12) (.int 16))) [.app 6 (.int 1),.ifs (.cmp .gt (.bin .mod (.bin .fdiv (.var 9) (.int 211)) (.int 3)) (.int 0)) [.put 3 (.var 10) (.ix (.lst [(.bin .add (.int 1) (.bin .mod (.bin .fdiv (.var 9) (.int 633)) (.int 3))),(.bin .add (.int 1) (.bin .mod (.var 8) (.int 999))),(.bin .sub (.int 999) (.bin .mod (.var 8) (.int 2)))]) (.bin .mod (.bin .fdiv (.var 9) (.int 1899)) (.int 3)))] []] [.app 6 (.var 12),.set 14 (.comp (.dix (.var 4) (.var 15)) [15] true .keys [(.var 4)] (.cmp .nmem (.var 15) (.var 5))),.put 4 (.var 10) (.bi .tuple [(.comp (.ix (.var 2) (.var 13)) [13] true .each [(.var 11)] (.bl true))]),.ifs (.and (.cmp .eq (.bi .len [(.var 11)]) (.int 2)) (.or (.cmp .eq (.bin .mod (.bin .fdiv (.var 9) (.int 211)) (.int 4)) (.int 0)) (.cmp .mem (.dix (.var 4) (.var 10)) (.var 14)))) [.app 5 (.var 10)] []]],
 .ret (.tup [(.var 2),(.var 3),(.var 4),(.var 5)])]⟩
noncomputable def bj:Fn:=⟨2,6,[
 .set 2 (.lst [(.comp (.tup [(.var 3),(.dix (.ix (.var 0) (.int 1)) (.var 3))]) [3] true .keys [(.ix (.var 0) (.int 1))] (.bl true)),(.comp (.tup [(.var 3),(.dix (.ix (.var 0) (.int 2)) (.var 3))]) [3] true .keys [(.ix (.var 0) (.int 2))] (.bl true))]),
 .app 2 (.bi .list [(.ix (.var 0) (.int 3))]),
 .ifs (.cmp .eq (.bin .mod (.var 1) (.int 2)) (.int 1)) [.eachRvs 4 2] [],
 .set 5 (.make 0 [(.ix (.var 2) (.int 0)),(.ix (.var 2) (.int 1)),(.ix (.var 2) (.int 2))]),
 .eachClr 4 2,
 .ret (.var 5)]⟩
noncomputable def bO:=bX.run K12.t0
noncomputable def t5:Tab:=⟨fun i=>match i with | 7=>bO | _=>fun _=>.bad,K12.nofn⟩
noncomputable def du:=gm.run t5
noncomputable def r_nth:=jD.run K12.t0
noncomputable def eU:=fD.run K12.t0
noncomputable def r_mix:=f_l_mix.run K12.t0
noncomputable def r_sign:=jC.run K12.t0
noncomputable def r_row:=gS.run K12.t0
noncomputable def t7:Tab:=⟨fun i=>match i with | 12=>r_mix | 13=>r_sign | 14=>r_row | _=>fun _=>.bad,K12.nofn⟩
noncomputable def gB:=cB.run t7
noncomputable def t8:Tab:=⟨K12.nofn,fun i=>match i with | 0=>K12.dR | _=>fun _=>.bad⟩
noncomputable def fm:=bj.run t8
end K21
namespace K12
open Vi
open PySem (Str)
noncomputable abbrev O:=Option (D × Bool)
theorem zv {G:Prop} (h:∀ P:Prop,(G→P)→P):G:=h G id
theorem ae {M:Tab} {s:S} {r:List S} {ρ ρ':Env} (h:runS M s ρ=.nx ρ'):al M (s::r) ρ=al M r ρ':=by simp [rSs_0,jb,h,Out.bind]
theorem dA {f:Fn} {M:Tab} {ds:List D} {d:D} (h1:ds.length=f.par) (h2:f.par≤f.slots) (h:al M f.body (ds.map (fun d=>some (d,false))++yt (f.slots - f.par) none)=.rt d):f.run M ds=.ok d:=by
 unfold Fn.run
 rw [if_pos ⟨h1,h2⟩,h]
theorem fn_nx {f:Fn} {M:Tab} {ds:List D} {ρ:Env} (h1:ds.length=f.par) (h2:f.par≤f.slots) (h:al M f.body (ds.map (fun d=>some (d,false))++yt (f.slots - f.par) none)=.nx ρ):f.run M ds=.ok .non:=by
 unfold Fn.run
 rw [if_pos ⟨h1,h2⟩,h]
theorem iZ {M:Tab} {n:Nat} {c:E} {b:List S} {ρ:Env}:runS M (.whl n c b) ρ=whlL (fun ρ'=>tru1 (runE M c ρ')) (fun ρ'=>al M b ρ') n ρ:=by rw [rS_whl]
theorem cE {M:Tab} {tg:List Nat} {one:Bool} {ik:Itk} {it:List E} {b:List S} {ρ:Env} {xs:List D} {k:Kd} (h:runI M ik it ρ=.ok (xs,k)) (hk:noBor k=true) :
  runS M (.for tg one ik it b) ρ=fS ρ (ao ρ k) (tg++asgs b) (forL (bC tg one fun ρ1=>al M b ρ1) xs (ao ρ k)):=by
 rw [rS_for,h]
 simp [ofR,hk]
theorem bV {M:Tab} {e c:E} {tg:List Nat} {one:Bool} {ik:Itk} {it:List E} {ρ:Env} {xs ys:List D} {k:Kd} {b:Bool} (h:runI M ik it ρ=.ok (xs,k)) (hl:xs.length≤1000000)
  (hc:bZ (dq ρ tg one (fun ρ1=>tru1 (runE M c ρ1)) (fun ρ1=>runE M e ρ1)) xs=.ok (ys,b)):runE M (.comp e tg one ik it c) ρ=.ok (.lst ys,if b=true then .sto [] else .bor):=by
 rw [jc,h]
 simp only [R.ok_bind]
 rw [if_neg (by exact t9.mpr ‹_›),hc]
 rfl
theorem ax {M:Tab} {o:Op} {a b:E} {ρ:Env} {x y z:D} {k k':Kd} (h1:runE M a ρ=.ok (x,k)) (h2:runE M b ρ=.ok (y,k')) (h3:opD o x y=.ok z):runE M (.bin o a b) ρ=.ok (z,kdOf z):=by
 simp only [rE_bin,h1,h2,R.pure_eq,R.ok_bind,h3]
theorem aA {M:Tab} {i:Nat} {e:E} {ρ ρ':Env} {d:D} {k:Kd} (h1:runE M e ρ=.ok (d,k)) (h2:aN ρ i d k=some ρ'):runS M (.set i e) ρ=.nx ρ':=by
 simp only [rS_set,ofR,h1,ofO,h2]
theorem aK {M:Tab} {b:Bi} {a:E} {ρ:Env} {x z:D} {k:Kd} (h1:runE M a ρ=.ok (x,k)) (h3:biD b [x]=.ok z):runE M (.bi b [a]) ρ=.ok (z,kdOf z):=by
 simp only [rE_bi,dS,h1,eV,R.pure_eq,R.ok_bind,h3]
theorem run_if {M:Tab} {c:E} {a b:List S} {ρ:Env} {x:D} {k:Kd} {t:Bool} (h1:runE M c ρ=.ok (x,k)) (h2:truD x=.ok t):runS M (.ifs c a b) ρ=if t=true then al M a ρ else al M b ρ:=by
 simp only [rS_ifs,ofR,h1,h2]
theorem gg {M:Tab} {x:Str} {e:E} {r:List (Option (D × Bool))} {c:Nat} {fs:List (Str × D)} {d:D} (h:runE M e (some (.obj c fs,true)::r)=.ok (d,.sto [])) (hl:fs.length < 900) (hn:fs.lookup x=none) :
  runS M (.fset x e) (some (.obj c fs,true)::r)=.nx (some (.obj c (fs++[(x,d)]),true)::r):=by
 simp only [rS_fset,ofR,h,yx,Nat.zero_lt_succ,getElem?_pos,List.getElem_cons_zero,ownO_1,hl,hn,xg,not_false_eq_true,and_self,↓reduceIte,List.foldl_nil,List.set_cons_zero]
theorem i6 {M:Tab} {e:E} {ρ:Vi.Env} {d:D} {k:Kd} (h:runE M e ρ=.ok (d,k)):runS M (.expr e) ρ=.nx ρ:=by
 simp only [rS_expr,ofR,h]
theorem aE {M:Tab} {f:Nat} {as:List E} {ρ:Env} {ds:List D} {k:Kd} {d:D} (h:cp M as ρ=.ok (ds,k)) (h2:M.fn f ds=.ok d):runE M (.call f as) ρ=.ok (d,.sto []):=by
 rw [rE_call,h]
 simp only [R.ok_bind,h2,R.pure_eq]
theorem aV {M:Tab} {o:Cp} {a b:E} {ρ:Env} {x y:D} {k k':Kd} {t:Bool} (h1:runE M a ρ=.ok (x,k)) (h2:runE M b ρ=.ok (y,k')) (h3:cmpD o x y=.ok t):runE M (.cmp o a b) ρ=.ok (.bl t,.sto []):=by
 rw [rE_cmp,h1]
 simp only [R.ok_bind,h2,h3,R.pure_eq]
theorem ak {M:Tab} {a:E} {r:List E} {ρ:Env} {x:D} {xs:List D} {k k':Kd} (h1:runE M a ρ=.ok (x,k)) (h2:cp M r ρ=.ok (xs,k')):cp M (a::r) ρ=.ok (x::xs,combK k k'):=by
 rw [dS,h1]
 simp only [R.ok_bind,h2,R.pure_eq]
theorem gz {M:Tab} {i:Nat} {e:E} {ρ:Env} {l:List D} {d:D} (h:runE M e ρ=.ok (d,.sto [])) (hl:ρ[i]?=some (some (.lst l,true))) (hc:l.length < 1000000):runS M (.app i e) ρ=.nx (ρ.set i (some (.lst (l++[d]),true))):=by
 rw [rS_app,h,hl]
 simp only [ofR,ownL_1]
 rw [if_pos ⟨hc,xg⟩]
 rfl
theorem fj {M:Tab} {i:Nat} {k v:E} {ρ:Env} {d d' x y:D} {k1 k2:Kd} (h1:runE M v ρ=.ok (y,k1)) (h2:runE M k ρ=.ok (x,k2)) (hl:ρ[i]?=some (some (d,true))) (hi:y.imm=true) (hp:gU d x y=some d'):runS M (.put i k v) ρ=.nx (ρ.set i (some (d',true))):=by
 rw [rS_put,h1,h2,hl]
 simp only [ofR]
 rw [if_pos hi,hp]
theorem gy {M:Tab} {a i:E} {ρ:Env} {x y d:D} {k k':Kd} (h1:runE M a ρ=.ok (x,k)) (h2:runE M i ρ=.ok (y,k')) (h3:dk x y=some (some d)):runE M (.dix a i) ρ=.ok (d,immK d):=by
 rw [rE_dix,h1]
 simp only [R.ok_bind,h2,h3,R.pure_eq]
theorem gd {M:Tab} {a b:E} {ρ:Env} {k:Kd} (h:runE M a ρ=.ok (.bl true,k)):runE M (.or a b) ρ=.ok (.bl true,.sto []):=by
 rw [rE_or,h]; rfl
theorem cU {M:Tab} {a b:E} {ρ:Env} {k:Kd} (h:runE M a ρ=.ok (.bl false,k)):runE M (.or a b) ρ=runE M b ρ:=by
 rw [rE_or,h]; rfl
theorem cP {M:Tab} {a b:E} {ρ:Env} {k:Kd} (h:runE M a ρ=.ok (.bl true,k)):runE M (.and a b) ρ=runE M b ρ:=by
 rw [rE_and,h]; rfl
theorem eS {M:Tab} {a b:E} {ρ:Env} {k:Kd} (h:runE M a ρ=.ok (.bl false,k)):runE M (.and a b) ρ=.ok (.bl false,.sto []):=by
 rw [rE_and,h]; rfl
theorem bu {M:Tab} {c:E} {a b:List S} {ρ:Env} {k:Kd} (h:runE M c ρ=.ok (.bl true,k)):runS M (.ifs c a b) ρ=al M a ρ:=by
 rw [run_if h rfl,if_pos rfl]
theorem aR {M:Tab} {c:E} {a b:List S} {ρ:Env} {k:Kd} (h:runE M c ρ=.ok (.bl false,k)):runS M (.ifs c a b) ρ=al M b ρ:=by
 rw [run_if h rfl,if_neg y9]
theorem bx {M:Tab} {ρ:Env}:al M [] ρ=.nx ρ:=by rw [rSs_0]
theorem av {M:Tab} {s:S} {ρ ρ':Env} (h:runS M s ρ=.nx ρ'):al M [s] ρ=.nx ρ':=(ae h).trans bx
theorem dL {M:Tab} {e:E} {ρ:Env} {d:D} {is:List Nat} (h:runE M e ρ=.ok (d,.sto is)):al M [.ret e] ρ=.rt d:=by
 rw [jb,rS_ret,h]
 rfl
theorem bB {ρ:Env} {i:Nat} {d:D} (h:ρ[i]?=some (some (d,true))) (hd:d.imm=false):getV ρ i=.ok (d,.sto [i]):=by
 unfold getV
 rw [h]
 show R.ok (d,if d.imm=true then Kd.sto [] else Kd.sto [i])=_
 rw [if_neg (by rw [hd]; exact y9)]
theorem aD {M:Tab} {ρ:Env} {i:Nat} {x:D × Kd} (h:getV ρ i=.ok x):runE M (.var i) ρ=.ok x:=by rw [bF]; exact h
theorem aJ {M:Tab} {ρ:Env}:cp M [] ρ=.ok ([],.sto []):=by rw [eV]
theorem i4 {M:Tab} {as:List E} {ρ:Env} {ds:List D} {k:Kd} (h:cp M as ρ=.ok (ds,k)) (hl:ds.length≤1000000):runE M (.tup as) ρ=.ok (.tup ds,k):=by
 rw [rE_tup,h]
 simp only [R.ok_bind]
 rw [if_pos hl]
 rfl
theorem run_not {M:Tab} {a:E} {ρ:Env} {t:Bool} {k:Kd} (h:runE M a ρ=.ok (.bl t,k)):runE M (.not a) ρ=.ok (.bl (!t),.sto []):=by
 rw [rE_not,h]
 rfl
theorem iT {M:Tab} {s:S} {r:List S} {ρ:Env} {d:D} (h:runS M s ρ=.rt d):al M (s::r) ρ=.rt d:=by
 rw [jb,h]
 rfl
theorem cD {ρ ρ1:Env} {tg:List Nat} {one:Bool} {c:Env→R Bool} {e:Env→R (D × Kd)} {d:D} {y:D × Kd} (hb:cn (inComp ρ tg) tg one d .old=some ρ1) (hc:c ρ1=.ok true) (he:e ρ1=.ok y):dq ρ tg one c e d=.ok (some y):=by
 unfold dq
 rw [hb]
 simp only [hc,he]
theorem turnC_f {ρ ρ1:Env} {tg:List Nat} {one:Bool} {c:Env→R Bool} {e:Env→R (D × Kd)} {d:D} (hb:cn (inComp ρ tg) tg one d .old=some ρ1) (hc:c ρ1=.ok false):dq ρ tg one c e d=.ok none:=by
 unfold dq
 rw [hb]
 simp only [hc]
theorem d9 {M:Tab} {a i:E} {ρ:Env} {x y d:D} {k k':Kd} (h1:runE M a ρ=.ok (x,k)) (h2:runE M i ρ=.ok (y,k')) (h3:dk x y=some (some d)) (hi:d.imm=true):runE M (.dix a i) ρ=.ok (d,.sto []):=by
 rw [gy h1 h2 h3,immK,if_pos hi]
theorem jx {ρ:Env} {i:Nat} {d:D} {o:Bool} (h:ρ[i]?=some (some (d,o))) (hd:d.imm=true):getV ρ i=.ok (d,.sto []):=by
 unfold getV
 rw [h]
 show R.ok (d,if d.imm=true then Kd.sto [] else if o=true then Kd.sto [i] else .old)=_
 rw [if_pos hd]
theorem run_get2 {M:Tab} {a i z:E} {ρ:Env} {x y w d:D} {o:Option D} {k k' k2:Kd} (h1:runE M a ρ=.ok (x,k)) (h2:runE M i ρ=.ok (y,k')) (h3:runE M z ρ=.ok (w,k2)) (h4:dk x y=some o) (h5:o.getD w=d) (hi:d.imm=true):runE M (.get2 a i z) ρ=.ok (d,.sto []):=by
 rw [rE_get2,h1]
 simp only [R.ok_bind,h2,h3,h4,h5,R.pure_eq,immK,hi,if_true]
theorem whl_f {c:Env→R Bool} {f:Env→Out} {n:Nat} {ρ:Env} (h:c ρ=.ok false):whlL c f (n+1) ρ=.nx ρ:=by
 simp only [whlL,h]
theorem whl_t {c:Env→R Bool} {f:Env→Out} {n:Nat} {ρ ρ':Env} (h:c ρ=.ok true) (h2:f ρ=.nx ρ'):whlL c f (n+1) ρ=whlL c f n ρ':=by
 simp only [whlL,h,h2]
theorem jm {l:List D} (h:immL l=true):kdOf (.lst l)=.sto []:=if_pos (show (D.lst l).flat=true from h)
theorem i5 {M:Tab} {o:E} {x:Str} {ρ:Env} {c:Nat} {fs:List (Str × D)} {d:D} {k:Kd} (h:runE M o ρ=.ok (.obj c fs,k)) (hl:fs.lookup x=some d):runE M (.fld o x) ρ=.ok (d,dW d k):=by
 rw [rE_fld,h]
 simp only [R.ok_bind,hl,R.pure_eq]
theorem kd_dK {l:List (Key × D)} (h:immL (l.map (·.2))=true):kdOf (.dK l)=.sto []:=if_pos (show (D.dK l).flat=true from h)
theorem eqLs_nil {f:D→D→Option Bool}:∀ l:List D,eqLs f l []=some l.isEmpty:=by
 intro x_0
 induction x_0 with
 | nil =>
  exact rfl
 | cons _ _ ih_ =>
  exact rfl
theorem ne_nil (l:List D):cmpD .ne (.lst l) (.lst [])=.ok (!l.isEmpty):=by
 show (match eqLs (eqN 7) l [] with | some k=>R.ok (!k) | none=>.bad)=_
 rw [eqLs_nil]
theorem run_ix {M:Tab} {a i:E} {ρ:Env} {x y d:D} {k k':Kd} (h1:runE M a ρ=.ok (x,k)) (h2:runE M i ρ=.ok (y,k')) (h3:ixD x y=.ok d):runE M (.ix a i) ρ=.ok (d,dW d k):=by
 rw [rE_ix,h1]
 simp only [R.ok_bind,h2,h3,R.pure_eq]
theorem run_each {M:Tab} {a:E} {ρ:Env} {x:D} {k:Kd} {xs:List D} (h:runE M a ρ=.ok (x,k)) (hx:cI .each [x]=some xs):runI M .each [a] ρ=.ok (xs,k):=by
 rw [rI_1,h]
 simp only [R.ok_bind,aJ,hx,R.pure_eq]
theorem beq_no {a b:Int} (h:¬ a=b):(a == b)=false:=by
 cases q:(a == b) with
 | false=>rfl
 | true=>exact absurd (eq_of_beq q) h
theorem run_lst {M:Tab} {as:List E} {ρ:Env} {ds:List D} {k:Kd} (h:cp M as ρ=.ok (ds,k)) (hl:ds.length≤1000000):runE M (.lst as) ρ=.ok (.lst ds,dispK k):=by
 rw [rE_lst,h]
 simp only [R.ok_bind,if_pos hl,R.pure_eq]
end K12
namespace K12
open Vi
open PySem (Str)
theorem aX:∀ ns:List Int,immL (ns.map D.int)=true:=by
 intro x_0
 induction x_0 with
 | nil =>
  exact rfl
 | cons n r ih_ =>
  show (true && immL (r.map D.int))=true; rw [ih_]; rfl
end K12
namespace K12
open Vi
open PySem (Str)
theorem memL_il (x:Int):∀ pool:List Int,memL (.int x) (pool.map D.int)=some (pool.any (· == x)):=by
 intro x_0
 induction x_0 with
 | nil =>
  exact rfl
 | cons p r ih_ =>
  show (match atomEq (.int p) (.int x),memL (.int x) (r.map D.int) with | some a,some b=>some (a || b) | _,_=>none)=_
  rw [ih_]; rfl
theorem any_eq_mem (x:Int) (pool:List Int):pool.any (· == x)=decide (x∈pool):=by
 by_cases h:x∈pool
 ·simp [h]
 ·simp only [h,decide_false]
  rw [ma]
  intro y hy e
  have:y=x:=by simpa using e
  exact h (this ▸ hy)
end K12
namespace K12
open Vi
open PySem (Str)
section
variable {κ:Type} [DecidableEq κ]
theorem ca {p:κ × D} {r:List (κ × D)} {k:κ} (e:p.1=k):valD (p::r) k=some p.2:=by simp [valD,vc,e]
theorem cb {p:κ × D} {r:List (κ × D)} {k:κ} (e:¬ p.1=k):valD (p::r) k=valD r k:=by simp [valD,vc,e]
theorem eO (k:κ):∀ kvs:List (κ × D),(kvs.any fun kv=>decide (kv.1=k))=(valD kvs k).isSome:=by
 intro x_0
 induction x_0 with
 | nil =>
  exact rfl
 | cons p r ih_ =>
  rw [vj]
  by_cases e:p.1=k
  ·simp only [ca e,decide_eq_true e,Bool.true_or,Option.isSome_some]
  ·rw [cb e,decide_eq_false e,Bool.false_or]; exact ih_
theorem valD_map (k j:κ) (y:D):∀ kvs:List (κ × D),valD (kvs.map fun kv=>if kv.1=k then (kv.1,y) else kv) j=(valD kvs j).map fun x=>if j=k then y else x:=by
 intro x_0
 induction x_0 with
 | nil =>
  exact rfl
 | cons p r ih_ =>
  have ih:=ih_
  rw [zc]
  by_cases h:p.1=k
  ·rw [if_pos h]
   by_cases e:p.1=j
   ·rw [ca (p:=(p.1,y)) e,ca e,w8,if_pos (e.symm.trans h)]
   ·rw [cb (p:=(p.1,y)) e,cb e,ih]
  ·rw [if_neg h]
   by_cases e:p.1=j
   ·rw [ca (p:=p) e,ca e,w8,if_neg (fun z=>h (e.trans z))]
   ·rw [cb (p:=p) e,cb e,ih]
theorem valD_snoc (k j:κ) (y:D):∀ kvs:List (κ × D),valD kvs k=none→valD (kvs++[(k,y)]) j=if j=k then some y else valD kvs j:=by
 intro x_0
 induction x_0 with
 | nil =>
  intro _
  by_cases e:k=j
  ·rw [if_pos e.symm]; exact ca (p:=(k,y)) e
  ·rw [if_neg (fun z=>e z.symm)]; exact cb (p:=(k,y)) e
 | cons p r ih_ =>
  intro hn
  rw [List.cons_append]
  have hk:¬ p.1=k:=fun z=>by rw [ca z] at hn; injection hn
  rw [cb hk] at hn
  have ih:=ih_ hn
  by_cases e:p.1=j
  ·rw [ca e,ca e,if_neg (fun z=>hk (e.trans z))]
  ·rw [cb e,cb e,ih]
theorem d6 (kvs:List (κ × D)) (k j:κ) (y:D):valD (putD kvs k y) j=if j=k then some y else valD kvs j:=by
 unfold putD
 by_cases a:(kvs.any fun kv=>decide (kv.1=k))=true
 ·rw [if_pos a,valD_map]
  rw [eO] at a
  by_cases e:j=k
  ·obtain ⟨x,hx⟩:=t6.mp a
   rw [if_pos e,e,hx,w8,if_pos rfl]
  ·rw [if_neg e]
   cases valD kvs j with
   | none=>rfl
   | some x=>rw [w8,if_neg e]
 ·rw [if_neg a]
  refine valD_snoc k j y kvs ?_
  rw [eO] at a
  cases q:valD kvs k with
  | none=>rfl
  | some x=>rw [q] at a; exact (a rfl).elim
theorem gh (kvs:List (κ × D)) (k:κ) (v:D):(putD kvs k v).length≤kvs.length+1:=by
 unfold putD
 split
 ·rw [z7]; exact yc _ _
 ·rw [zl,yx,List.length_nil]; exact zf _
theorem eh {kvs:List (κ × D)} {k:κ} (v:D) (h:valD kvs k=none):putD kvs k v=kvs++[(k,v)]:=by
 unfold putD
 rw [eO,h]
 exact if_neg (by decide)
theorem dH {kvs:List (κ × D)} {k:κ}:valD kvs k=none↔k∉kvs.map (·.1):=by
 constructor
 ·intro h m
  obtain ⟨p,hp,e⟩:=yw.mp m
  have q:(kvs.any fun kv=>decide (kv.1=k))=true:=se.mpr ⟨p,hp,decide_eq_true e⟩
  rw [eO,h] at q
  exact absurd q (by simp)
 ·intro h
  cases q:valD kvs k with
  | none=>rfl
  | some x =>
   have:(kvs.any fun kv=>decide (kv.1=k))=true:=by rw [eO,q]; rfl
   obtain ⟨p,hp,e⟩:=se.mp this
   exact absurd (yw.mpr ⟨p,hp,of_decide_eq_true e⟩) h
end
end K12
namespace K12
open Vi
open PySem (Str)
theorem cx {α:Type} {f:Env→D→Out} (I:List α→Env→Prop) (g:α→D):∀ (post pre:List α) (ρ:Env),I pre ρ→(∀ p x q ρ,pre++post=p++x::q→I p ρ→∃ ρ',f ρ (g x)=.nx ρ'∧I (p++[x]) ρ') →
  ∃ ρ',forL f (post.map g) ρ=.nx ρ'∧I (pre++post) ρ':=by
 intro x_0
 induction x_0 with
 | nil =>
  intro pre ρ h0 _
  exact ⟨ρ,rfl,by simpa using h0⟩
 | cons x post ih_ =>
  intro pre ρ h0 step
  obtain ⟨ρ1,e1,h1⟩:=step pre x post ρ rfl h0
  obtain ⟨ρ',e2,h2⟩:=ih_ (pre++[x]) ρ1 h1 (fun p y q ρ e=>step p y q ρ (by simpa using e))
  refine ⟨ρ', ?_,by simpa using h2⟩
  rw [zc]
  simp only [forL,e1]
  exact e2
noncomputable abbrev oi (w:Option Int):Option (D × Bool):=w.map fun i=>(D.int i,true)
noncomputable abbrev envN (ns:List Int) (seen:List (Key × D)) (w:Option Int):Vi.Env:=[some (.lst (ns.map D.int),false),some (.dK seen,true),some (.lst [],true),oi w]
theorem fG (ns:List Int) (hn:ns.Nodup) (hl:ns.length≤1000):de [.lst (ns.map D.int)]=.ok (.lst []):=by
 obtain ⟨ρ',e,seen,w,q,_⟩:=cx (f:=bC [3] true fun ρ1=>al t0 [.ifs (.cmp .mem (.var 3) (.var 1)) [.app 2 (.var 3)] [],.put 1 (.var 3) (.bl true)] ρ1)
  (fun pre ρ=>∃ seen w,ρ=envN ns seen w∧(∀ k:Int,valD seen (.inl k)≠none→k∈pre)∧seen.length≤pre.length) D.int ns []
  (envN ns [] none) ⟨[],none,rfl,fun k h=>absurd rfl h,zf _⟩ (by
   intro p x q ρ e hh
   obtain ⟨seen,w,er,hs,hl'⟩:=hh
   subst er
   have e:ns=p++x::q:=e
   have hx:x∉p:=fun z=>by
    rw [e] at hn
    exact (x4.mp hn).2.2 x z x za rfl
   have hv:valD seen (zu x:Key)=none:=Classical.byContradiction fun z=>hx (hs x z)
   have hp:p.length≤1000:=by
    rw [e,zl] at hl
    exact z5 (yc _ _) hl
   have c:runE t0 (.cmp .mem (.var 3) (.var 1)) (envN ns seen (some x))=.ok (.bl (valD seen (zu x:Key)).isSome,.sto []):=aV rfl rfl rfl
   rw [hv] at c
   refine ⟨_,(ae ((aR c).trans bx)).trans (av (fj (d':=.dK (putD seen (.inl x) (.bl true))) rfl rfl rfl rfl (by simp only [gU,cA]; rw [if_pos (zg (z5 hl' hp) (by decide))]))),putD seen (.inl x) (.bl true),some x,rfl,fun k hk=>?_, ?_⟩
   ·rw [d6] at hk
    by_cases z:(zu k:Key)=zu x
    ·rw [u4 z]; exact zd _ za
    ·rw [if_neg z] at hk; exact zk _ (hs k hk)
   ·rw [zl]
    exact z5 (gh seen (zu x:Key) (.bl true)) (xo hl'))
 have hi:runI t0 .each [.var 0] (envN ns [] none)=.ok (ns.map D.int,.old):=by rw [rI_1,bF]; rfl
 have h3:runS t0 (.for [3] true .each [(.var 0)] [.ifs (.cmp .mem (.var 3) (.var 1)) [.app 2 (.var 3)] [],.put 1 (.var 3) (.bl true)]) (envN ns [] none)=.nx (envN ns seen w):=by
  rw [cE hi rfl,show ao (envN ns [] none) .old=envN ns [] none from rfl,e,q]
  cases w <;> rfl
 exact dA rfl (by decide) ((ae (ρ':=[some (.lst (ns.map D.int),false),some (.dK [],true),none,none]) rfl).trans ((ae (ρ':=envN ns [] none) rfl).trans ((ae h3).trans rfl)))
end K12
namespace K12
open Vi
open PySem (Str)
theorem bU {α:Type} {f:D→R (Option (D × Kd))} (g h:α→D):∀ (xs:List α),(∀ x∈xs,f (g x)=.ok (some (h x,.sto [])))→bZ f (xs.map g)=.ok (xs.map h,true):=by
 intro x_0
 induction x_0 with
 | nil =>
  intro _
  exact rfl
 | cons x r ih_ =>
  intro H
  rw [zc,zc]
  simp only [bZ,H x za,ih_ (fun y hy=>H y (z8 _ hy))]
theorem fL {α:Type} {f:D→R (Option (D × Kd))} (g h:α→D) (p:α→Bool):∀ (xs:List α),(∀ x∈xs,f (g x)=.ok (if p x=true then some (h x,.sto []) else none))→bZ f (xs.map g)=.ok ((xs.filter p).map h,true):=by
 intro x_0
 induction x_0 with
 | nil =>
  intro _
  exact rfl
 | cons x r ih_ =>
  intro H
  have ih:=ih_ (fun y hy=>H y (z8 _ hy))
  have hx:=H x za
  rw [zc,List.filter_cons]
  by_cases hp:p x=true
  ·rw [if_pos hp] at hx ⊢
   simp only [bZ,hx,ih,zc]
  ·rw [if_neg hp] at hx ⊢
   simp only [bZ,hx,ih]
noncomputable def bW (m:Int × Int):D:=.tup [.int m.1,.int m.2]
noncomputable def rowD (r:Int × List Int):D:=.tup [.int r.1,.tup (r.2.map D.int)]
theorem bA (l:List Int):(D.tup (l.map D.int)).imm=true:=by
 show immL (l.map D.int)=true
 exact aX l
theorem imm_row (r:Int × List Int):(rowD r).imm=true:=by
 show (true && ((D.tup (r.2.map D.int)).imm && true))=true
 rw [bA]; rfl
theorem imm_mark (r:Int × Int):(bW r).imm=true:=rfl
theorem cX {α:Type} (g:α→D) (h:∀ x,(g x).imm=true) (l:List α):immL (l.map g)=true:=eB.mpr fun d hd=>by
 obtain ⟨x,_,e⟩:=yw.mp hd
 rw [← e]; exact h x
theorem immR (rows:List (Int × List Int)):immL (rows.map rowD)=true:=cX rowD imm_row rows
theorem immM (rows:List (Int × Int)):immL (rows.map bW)=true:=cX bW imm_mark rows
theorem gA (marks:List (Int × Int)) (rows:List (Int × List Int)) (shuts:List Int) (h:(marks.map (·.1)++rows.map (·.1)).Nodup) (hs:shuts.Nodup) (l1:marks.length+rows.length≤1000) (l2:shuts.length≤1000) :
  bR [.lst (marks.map bW),.lst (rows.map rowD),.lst (shuts.map D.int)]=.ok .non:=by
 let ρ:O→O→Env:=fun a b=>[some (.lst (marks.map bW),false),some (.lst (rows.map rowD),false),some (.lst (shuts.map D.int),false),a,none,none,b]
 have c1:runE t1 (.comp (.ix (.var 4) (.int 0)) [4] true .each [(.var 0)] (.bl true)) (ρ none none)=.ok (.lst (marks.map fun m=>D.int m.1),.sto []) :=
  bV (b:=true) (xs:=marks.map bW) (k:=.old) (by rw [rI_1,bF]; rfl) (by rw [z7]; exact z5 (yc _ _) (z5 l1 (by decide))) (bU bW (fun m=>D.int m.1) marks fun m _=>cD (ρ1:=(inComp (ρ none none) [4]).set 4 (some (bW m,true))) rfl (by rw [fT]; rfl) rfl)
 have c2:runE t1 (.comp (.ix (.var 5) (.int 0)) [5] true .each [(.var 1)] (.bl true)) (ρ none none)=.ok (.lst (rows.map fun m=>D.int m.1),.sto []) :=
  bV (b:=true) (xs:=rows.map rowD) (k:=.old) (by rw [rI_1,bF]; rfl) (by rw [z7]; exact z5 (w9 _ _) (z5 l1 (by decide))) (bU rowD (fun m=>D.int m.1) rows fun m _=>cD (ρ1:=(inComp (ρ none none) [5]).set 5 (some (rowD m,true))) (by
    show aN _ 5 (rowD m) (dW (rowD m) .old)=_
    rw [show dW (rowD m) .old=.sto [] from if_pos (imm_row m)]
    rfl) (by rw [fT]; rfl) (by
    rw [rE_ix,aD (jx (i:=5) rfl (imm_row m))]
    rfl))
 have e:(marks.map fun m=>D.int m.1)++(rows.map fun m=>D.int m.1)=(marks.map (·.1)++rows.map (·.1)).map D.int:=by rw [y3,ym,ym]; rfl
 have h1:runS t1 (cy.body.getD 0 .pass) (ρ none none)=.nx (ρ (some (.lst ((marks.map (·.1)++rows.map (·.1)).map D.int),true)) none):=by
  have:=ax (o:=.add) c1 c2 (z:=.lst ((marks.map (·.1)++rows.map (·.1)).map D.int)) (by rw [opD_7,if_pos (by rw [z7,z7]; exact z5 l1 (by decide)),e])
  rw [jm (aX _)] at this
  exact aA this rfl
 have hr1:=fG _ h (by rw [zl,z7,z7]; exact l1)
 have hr2:=fG _ hs l2
 have h2:runS t1 (.set 6 (.bin .add (.call 0 [(.var 3)]) (.call 0 [(.var 2)]))) (ρ (some (.lst ((marks.map (·.1)++rows.map (·.1)).map D.int),true)) none)=.nx (ρ (some (.lst ((marks.map (·.1)++rows.map (·.1)).map D.int),true)) (some (.lst [],true))) :=
  aA (d:=.lst []) (k:=.sto []) (ax (aE (ds:=[.lst ((marks.map (·.1)++rows.map (·.1)).map D.int)]) rfl hr1) (aE (ds:=[.lst (shuts.map D.int)]) rfl hr2) (z:=.lst []) rfl) rfl
 exact fn_nx (ρ:=ρ (some (.lst ((marks.map (·.1)++rows.map (·.1)).map D.int),true)) (some (.lst [],true))) rfl (by decide) ((ae h1).trans ((ae h2).trans rfl))
end K12
namespace K12
open Vi
open PySem (Str)
structure bG (marks:List (Int × Int)) (rows:List (Int × List Int)) (shuts:List Int):Prop where
 nodup:(marks.map (·.1)++rows.map (·.1)).Nodup
 sh:shuts.Nodup
 two:∀ s∈shuts,∃ r,(s,r)∈rows∧r.length=2
 same:∀ s t r,(s,r)∈rows→(t,r)∈rows→r.length=2→s∉shuts→t∉shuts→s=t
 short:∀ s r,(s,r)∈rows→r.length=1∨r.length=2
 few:marks.length+rows.length≤60
 fewS:shuts.length≤60
 ahead:∃ idx:Int→Nat,∀ s r,(s,r)∈rows→∀ p∈r,p∈rows.map (·.1)→idx p < idx s
 size:∃ sz:Int→Int,(∀ s r,(s,r)∈rows→sz s=(r.map sz).sum∧sz s≤16)∧∀ p,p∉rows.map (·.1)→sz p=1
noncomputable def rowK (r:Int × List Int):Key × D:=(.inl r.1,.tup (r.2.map D.int))
theorem row_one {rows:List (Int × List Int)} (hn:(rows.map (·.1)).Nodup) {s:Int} {r r':List Int} (h:(s,r)∈rows) (h':(s,r')∈rows):r=r':=by
 induction rows with
 | nil=>cases h
 | cons x l ih =>
  rw [zc,y0] at hn
  rcases y6.mp h with e | h1
  ·rcases y6.mp h' with e' | h2
   ·rw [← e] at e'; cases e'; rfl
   ·rw [← e] at hn
    exact absurd (yw.mpr ⟨_,h2,rfl⟩) hn.1
  ·rcases y6.mp h' with e' | h2
   ·rw [← e'] at hn
    exact absurd (yw.mpr ⟨_,h1,rfl⟩) hn.1
   ·exact ih hn.2 h1 h2
theorem gq {α κ:Type} [DecidableEq κ] (f:α→κ) (g:α→D):∀ {l:List α} {x:α},(l.map f).Nodup→x∈l→valD (l.map fun a=>(f a,g a)) (f x)=some (g x):=by
 intro x_0
 induction x_0 with
 | nil =>
  intro _ _ h
  exact nomatch h
 | cons y l ih_ =>
  intro x hn h
  rw [zc,y0] at hn
  rw [zc]
  rcases y6.mp h with e | h1
  ·subst e; exact ca rfl
  ·rw [cb (fun z:f y=f x=>hn.1 (by rw [z]; exact yw.mpr ⟨x,h1,rfl⟩))]
   exact ih_ hn.2 h1
theorem gI {α:Type} (f:α→Key) (g:α→D):∀ (post pre:List α),((pre++post).map f).Nodup→gJ (pre.map fun a=>(f a,g a)) (post.map fun a=>(f a,g a))=(pre++post).map fun a=>(f a,g a):=by
 intro x_0
 induction x_0 with
 | nil =>
  intro pre _
  simp [gJ]
 | cons x post ih_ =>
  intro pre h
  have hx:f x∉pre.map f:=fun z=>by
   rw [y3,zc] at h
   exact (x4.mp h).2.2 _ z _ za rfl
  rw [zc]
  show gJ (putD (pre.map fun a=>(f a,g a)) (f x) (g x)) (post.map fun a=>(f a,g a))=_
  rw [eh _ (dH.mpr (by rw [ym]; exact hx))]
  have e:(pre.map fun a=>(f a,g a))++[(f x,g x)]=(pre++[x]).map fun a=>(f a,g a):=by simp
  rw [e,ih_ (pre++[x]) (by simpa using h)]
  simp
theorem pairs_rows:∀ rows:List (Int × List Int),cW (rows.map rowD)=some (rows.map rowK):=by
 intro x_0
 induction x_0 with
 | nil =>
  exact rfl
 | cons r l ih_ =>
  show (match cA (.int r.1),cW (l.map rowD) with | some k,some ps=>some ((k,D.tup (r.2.map D.int))::ps) | _,_=>none)=_
  rw [ih_]; rfl
noncomputable def da (m:Int × Int):Key × D:=(.inl m.1,.int m.2)
theorem pairs_marks:∀ rows:List (Int × Int),cW (rows.map bW)=some (rows.map da):=by
 intro x_0
 induction x_0 with
 | nil =>
  exact rfl
 | cons r l ih_ =>
  show (match cA (.int r.1),cW (l.map bW) with | some k,some ps=>some ((k,D.int r.2)::ps) | _,_=>none)=_
  rw [ih_]; rfl
noncomputable def shutD (s:Int):D:=.tup [.int s,.bl true]
noncomputable def dD (s:Int):Key × D:=(.inl s,.bl true)
theorem pairs_shuts:∀ rows:List Int,cW (rows.map shutD)=some (rows.map dD):=by
 intro x_0
 induction x_0 with
 | nil =>
  exact rfl
 | cons r l ih_ =>
  show (match cA (.int r),cW (l.map shutD) with | some k,some ps=>some ((k,D.bl true)::ps) | _,_=>none)=_
  rw [ih_]; rfl
theorem df {l:List Int} (h:l.Nodup):(l.map (zu:Int→Key)).Nodup:=by
 rw [List.nodup_iff_pairwise_ne] at h ⊢
 rw [List.pairwise_map]
 exact h.imp fun hne e=>hne (u4 e)
theorem ints_il:∀ ns:List Int,jr (ns.map D.int)=some ns:=by
 intro x_0
 induction x_0 with
 | nil =>
  exact rfl
 | cons n r ih_ =>
  rw [zc]; simp [jr,ih_]
theorem sort_il (ns:List Int) (h:ns.length < 64):sortD (ns.map D.int)=some ((sortI ns).map D.int):=by simp [sortD,ints_il,h]
theorem gv (ns:List Int):(sortI ns).Perm ns:=List.mergeSort_perm _ _
theorem h8 {ns:List Int} (h:ns.Nodup):(sortI ns).Nodup:=(gv ns).nodup_iff.mpr h
theorem eP {ns:List Int} {x:Int}:x∈sortI ns↔x∈ns:=(gv ns).mem_iff
theorem iU (ns:List Int):(sortI ns).length=ns.length:=(gv ns).length_eq
theorem jk:∀ ns:List Int,cH (ns.map D.int)=some (ns.map zu):=by
 intro x_0
 induction x_0 with
 | nil =>
  exact rfl
 | cons n r ih_ =>
  rw [zc]; simp [cH,cA,ih_]
theorem inl_inj:∀ {a b:List Int},a.map (zu:Int→Key)=b.map zu→a=b:=by
 intro x_0
 induction x_0 with
 | nil =>
  intro x_1
  cases x_1 with
  | nil =>
   intro _
   exact rfl
  | cons _ _ =>
   intro e
   simp at e
 | cons x a ih_ =>
  intro x_1
  cases x_1 with
  | nil =>
   intro e
   simp at e
  | cons y b =>
   intro e
   rw [zc,zc] at e
   injection e with e1 e2
   rw [u4 e1,ih_ e2]
section
variable {marks:List (Int × Int)} {rows:List (Int × List Int)} {shuts:List Int} (T:bG marks rows shuts)
theorem bG.nr (T:bG marks rows shuts):(rows.map (·.1)).Nodup:=(x4.mp T.nodup).2.1
theorem bG.nm (T:bG marks rows shuts):(marks.map (·.1)).Nodup:=(x4.mp T.nodup).1
theorem bG.lr (T:bG marks rows shuts):rows.length≤60:=by have:=T.few; exact z5 (w9 _ _) ‹_›
theorem bG.val (T:bG marks rows shuts) {s:Int} {r:List Int} (h:(s,r)∈rows):valD (rows.map rowK) (zu s:Key)=some (.tup (r.map D.int)):=by
 have hn:(rows.map fun r=>(zu r.1:Key)).Nodup:=by have:=df T.nr; rwa [ym] at this
 exact gq (fun r:Int × List Int=>(zu r.1:Key)) (fun r=>.tup (r.2.map D.int)) (x:=(s,r)) hn h
theorem bG.valN (T:bG marks rows shuts) {s:Int} (h:s∉rows.map (·.1)):valD (rows.map rowK) (zu s:Key)=none:=dH.mpr fun z=>by
 rw [ym] at z
 obtain ⟨r,hr,e⟩:=yw.mp z
 exact h (yw.mpr ⟨r,hr,u4 e⟩)
theorem bG.inRows (T:bG marks rows shuts) {s:Int} (h:s∈rows.map (·.1)):∃ r,(s,r)∈rows:=by
 obtain ⟨⟨s',r⟩,hr,e⟩:=yw.mp h
 subst e
 exact ⟨r,hr⟩
theorem val_shut {s:Int}:∀ {shuts:List Int},(valD (shuts.map dD) (zu s:Key)).isSome=decide (s∈shuts):=by
 intro x_0
 induction x_0 with
 | nil =>
  exact rfl
 | cons t l ih_ =>
  rw [zc]
  by_cases e:t=s
  ·subst e
   rw [ca (p:=dD t) (k:=zu t) rfl]
   simp
  ·rw [cb (p:=dD t) (k:=zu s) (fun z=>e (u4 z)),ih_]
   simp [wt e]
theorem dict_rows (T:bG marks rows shuts):biD .dict [.lst (rows.map rowD)]=.ok (.dK (rows.map rowK)):=by
 have h:(([]++rows).map fun r:Int × List Int=>(zu r.1:Key)).Nodup:=by have:=df T.nr; rwa [ym] at this
 have e:=gI (fun r:Int × List Int=>(zu r.1:Key)) (fun r=>D.tup (r.2.map D.int)) rows [] h
 have hi:immL ((rows.map rowK).map (·.2))=true:=by rw [ym]; exact cX _ (fun r=>bA r.2) rows
 have hl:(rows.map rowK).length≤1000000:=by rw [z7]; have:=T.lr; exact z5 ‹_› (by decide)
 simp only [jK,pairs_rows]
 rw [if_pos ⟨hi,hl⟩]
 exact congrArg (fun l=>R.ok (D.dK l)) e
theorem dict_marks (T:bG marks rows shuts):biD .dict [.lst (marks.map bW)]=.ok (.dK (marks.map da)):=by
 have h:(([]++marks).map fun r:Int × Int=>(zu r.1:Key)).Nodup:=by have:=df T.nm; rwa [ym] at this
 have e:=gI (fun r:Int × Int=>(zu r.1:Key)) (fun r=>D.int r.2) marks [] h
 have hi:immL ((marks.map da).map (·.2))=true:=by rw [ym]; exact cX _ (fun r=>rfl) marks
 have hl:(marks.map da).length≤1000000:=by rw [z7]; have:=T.few; (clear T h e hi; omega)
 simp only [jK,pairs_marks]
 rw [if_pos ⟨hi,hl⟩]
 exact congrArg (fun l=>R.ok (D.dK l)) e
theorem dict_shuts (T:bG marks rows shuts):biD .dict [.lst (shuts.map shutD)]=.ok (.dK (shuts.map dD)):=by
 have h:(([]++shuts).map fun r:Int=>(zu r:Key)).Nodup:=by simpa using df T.sh
 have e:=gI (fun r:Int=>(zu r:Key)) (fun r=>D.bl true) shuts [] h
 have hi:immL ((shuts.map dD).map (·.2))=true:=by rw [ym]; exact cX _ (fun r=>rfl) shuts
 have hl:(shuts.map dD).length≤1000000:=by rw [z7]; have:=T.fewS; exact z5 ‹_› (by decide)
 simp only [jK,pairs_shuts]
 rw [if_pos ⟨hi,hl⟩]
 exact congrArg (fun l=>R.ok (D.dK l)) e
theorem gu (T:bG marks rows shuts):biD .sorted [.dK (rows.map rowK)]=.ok (.lst ((sortI (rows.map (·.1))).map D.int)):=by
 have e:((rows.map rowK).map fun kv=>keyD kv.1)=(rows.map (·.1)).map D.int:=by rw [ym,ym]; rfl
 have hl:(rows.map (·.1)).length < 64:=by rw [z7]; have:=T.lr; exact zg ‹_› (by decide)
 simp only [fP,e,sort_il _ hl]
theorem no_pair_ok (T:bG marks rows shuts):bE [.dK (rows.map rowK),.lst (shuts.map D.int)]=.ok .non:=by
 let ρ:Option Int→Env:=fun w=>[some (.dK (rows.map rowK),false),some (.lst (shuts.map D.int),false),oi w]
 refine zz fun P_ k_=>?_
 obtain ⟨ρ',e,w,q⟩:=cx (f:=bC [2] true fun ρ1=>al t0 [.ifs (.cmp .ne (.bi .len [(.get2 (.var 0) (.var 2) (.tup []))]) (.int 2)) [.raise] []] ρ1)
  (fun pre ρ0=>∃ w,ρ0=ρ w) D.int (sortI shuts) [] (ρ none) ⟨none,rfl⟩ (by
   intro p x q ρ0 e ⟨w,er⟩
   subst er
   have hx:x∈shuts:=eP.mp (by rw [show sortI shuts=p++x::q from e]; exact zd _ za)
   obtain ⟨r,hr,h2⟩:=T.two x hx
   have c:runE t0 (.cmp .ne (.bi .len [(.get2 (.var 0) (.var 2) (.tup []))]) (.int 2)) (ρ (some x))=.ok (.bl (!(((r.map D.int).length:Int) == 2)),.sto []) :=
    aV (aK (run_get2 (x:=.dK (rows.map rowK)) (y:=.int x) (w:=.tup []) (d:=.tup (r.map D.int)) rfl rfl rfl rfl (by rw [T.val hr]; rfl) (bA r)) rfl) rfl rfl
   rw [z7,h2] at c
   exact ⟨_,av ((aR c).trans bx),some x,rfl⟩)
 refine k_ ?_
 have hi:=aK (M:=t0) (a:=.var 1) (ρ:=ρ none) (k:=.old) (b:=.sorted) (z:=.lst ((sortI shuts).map D.int)) rfl (by rw [g0,sort_il _ (zg T.fewS (by decide))])
 rw [jm (aX _)] at hi
 have hI:runI t0 .each [.bi .sorted [.var 1]] (ρ none)=.ok ((sortI shuts).map D.int,.sto []):=by rw [rI_1,hi]; rfl
 refine fn_nx (ρ:=ρ w) rfl (by decide) (av ?_)
 show runS t0 (.for [2] true .each [(.bi .sorted [(.var 1)])] _) (ρ none)=_
 rw [cE hI rfl,show ao (ρ none) (.sto [])=ρ none from rfl,e,q]
 cases w <;> rfl
end
end K12
namespace K12
open Vi
open PySem (Str)
structure bY (rows:List (Int × List Int)) (shuts:List Int) (P:Int→Prop) (found:List (List Key × D)):Prop where
 sound:∀ k v,valD found k=some v→∃ s r,P s∧(s,r)∈rows∧r.length=2∧s∉shuts∧k=r.map zu∧v=.int s
 full:∀ s r,P s→(s,r)∈rows→r.length=2→s∉shuts→valD found (r.map zu)=some (.int s)
section
variable {marks:List (Int × Int)} {rows:List (Int × List Int)} {shuts:List Int}
theorem bY.nil:bY rows shuts (fun s=>s∈([]:List Int)) []:=⟨fun k v h=>(nomatch h),fun s r h=>(nomatch h)⟩
theorem bY.skip {found:List (List Key × D)} {p:List Int} {x:Int} {r:List Int} (T:bG marks rows shuts) (F:bY rows shuts (· ∈ p) found) (hx:(x,r)∈rows) (h:¬ (r.length=2∧x∉shuts)):bY rows shuts (· ∈ p++[x]) found:=by
 refine ⟨fun k v e=>?_,fun s r' hs hr h2 hn=>?_⟩
 ·obtain ⟨s,r,h1,h2⟩:=F.sound k v e
  exact ⟨s,r,zk _ h1,h2⟩
 ·rcases y2.mp hs with z | z
  ·exact F.full s r' z hr h2 hn
  ·have z:s=x:=by simpa using z
   subst z
   rw [row_one T.nr hr hx] at h2
   exact absurd ⟨h2,hn⟩ h
theorem bY.new {found:List (List Key × D)} {p:List Int} {x:Int} {r:List Int} (T:bG marks rows shuts) (F:bY rows shuts (· ∈ p) found) (hx:(x,r)∈rows) (hp:x∉p) (h2:r.length=2) (hn:x∉shuts):valD found (r.map zu)=none:=by
 cases e:valD found (r.map zu) with
 | none=>rfl
 | some v =>
  obtain ⟨s,r',h1,h3,h4,h5,h6,_⟩:=F.sound _ v e
  have:=inl_inj h6
  subst this
  have:=T.same s x r h3 hx h2 h5 hn
  subst this
  exact absurd h1 hp
theorem bY.put {found:List (List Key × D)} {p:List Int} {x:Int} {r:List Int} (T:bG marks rows shuts) (F:bY rows shuts (· ∈ p) found) (hx:(x,r)∈rows) (h2:r.length=2) (hn:x∉shuts):bY rows shuts (· ∈ p++[x]) (putD found (r.map zu) (.int x)):=by
 refine ⟨fun k v e=>?_,fun s r' hs hr h2' hn'=>?_⟩
 ·rw [d6] at e
  by_cases z:k=r.map zu
  ·rw [if_pos z] at e
   (injection e with e; subst e)
   exact ⟨x,r,by simp,hx,h2,hn,z,rfl⟩
  ·rw [if_neg z] at e
   obtain ⟨s,r,h1,h3⟩:=F.sound k v e
   exact ⟨s,r,zk _ h1,h3⟩
 ·rw [d6]
  by_cases z:r'.map (zu:Int→Key)=r.map zu
  ·rw [if_pos z]
   have:=inl_inj z
   subst this
   rw [T.same s x r' hr hx h2 hn' hn]
  ·rw [if_neg z]
   rcases y2.mp hs with y | y
   ·exact F.full s r' y hr h2' hn'
   ·have y:s=x:=by simpa using y
    subst y
    rw [row_one T.nr hr hx] at z
    exact absurd rfl z
noncomputable abbrev ot (w:Option (List Int)):Option (D × Bool):=w.map fun l=>(D.tup (l.map D.int),true)
noncomputable abbrev bodyS:List S:=match cm.body.getD 2 .pass with
 | .for _ _ _ _ b=>b
 | _=>[]
noncomputable abbrev envS (rows:List (Int × List Int)) (shuts:List Int) (found:List (List Key × D)) (a b:O):Vi.Env:=[some (.dK (rows.map rowK),false),some (.dK (shuts.map dD),false),some (.dT found,true),some (.lst [],true),a,b,none]
inductive SSt (rows:List (Int × List Int)) (shuts pre:List Int) (ρ:Vi.Env):Prop
 | mk (found:List (List Key × D)) (a b:O) (e:ρ=envS rows shuts found a b) (F:bY rows shuts (· ∈ pre) found) (hl:found.length≤pre.length) (hi:immL (found.map (·.2))=true)
theorem turn_S (T:bG marks rows shuts) {found:List (List Key × D)} {p:List Int} {x:Int} {r:List Int} (hr:(x,r)∈rows) (hxp:x∉p) (F:bY rows shuts (· ∈ p) found) (hl:found.length≤p.length) (hp:p.length≤100) (hi:immL (found.map (·.2))=true) (a b:O) :
  ∃ ρ',bC [4] true (fun ρ1=>al t0 bodyS ρ1) (envS rows shuts found a b) (.int x)=.nx ρ'∧SSt rows shuts (p++[x]) ρ':=by
 have s1:runS t0 (.set 5 (.dix (.var 0) (.var 4))) (envS rows shuts found (some (.int x,true)) b)=.nx (envS rows shuts found (some (.int x,true)) (some (.tup (r.map D.int),true))) :=
  aA (d9 (x:=.dK (rows.map rowK)) (y:=.int x) rfl rfl (congrArg some (T.val hr)) (bA r)) rfl
 have c1:runE t0 (.cmp .eq (.bi .len [(.var 5)]) (.int 2)) (envS rows shuts found (some (.int x,true)) (some (.tup (r.map D.int),true)))=.ok (.bl (((r.map D.int).length:Int) == 2),.sto []):=aV (aK rfl rfl) rfl rfl
 have c2:runE t0 (.cmp .nmem (.var 4) (.var 1)) (envS rows shuts found (some (.int x,true)) (some (.tup (r.map D.int),true)))=.ok (.bl (!decide (x∈shuts)),.sto []):=aV rfl rfl (by
  rw [cmpD_10]
  show R.ok (!(valD (shuts.map dD) (zu x:Key)).isSome)=_
  rw [val_shut])
 rw [z7] at c1
 refine zv fun P_ k_=>?_
 by_cases hc:r.length=2∧x∉shuts
 ·have hnew:=F.new T hr hxp hc.1 hc.2
  rw [hc.1] at c1
  rw [decide_eq_false hc.2] at c2
  have c3:runE t0 (.cmp .mem (.var 5) (.var 2)) (envS rows shuts found (some (.int x,true)) (some (.tup (r.map D.int),true)))=.ok (.bl false,.sto []):=aV rfl rfl (by
   rw [cmpD_9]
   show (match (match dk (.dT found) (.tup (r.map D.int)) with | some o=>some o.isSome | none=>none) with | some k=>R.ok k | none=>.bad)=_
   simp only [dk,jk,hnew]
   rfl)
  have s4:runS t0 (.put 2 (.var 5) (.var 4)) (envS rows shuts found (some (.int x,true)) (some (.tup (r.map D.int),true)))=.nx (envS rows shuts (putD found (r.map zu) (.int x)) (some (.int x,true)) (some (.tup (r.map D.int),true))) :=
   fj (d':=.dT (putD found (r.map zu) (.int x))) rfl rfl rfl rfl (by simp only [gU,jk]; rw [if_pos (zg (z5 hl hp) (by decide))])
  refine k_ ⟨_,(ae s1).trans (av ((bu ((cP c1).trans c2)).trans (av ((aR c3).trans (av s4))))),_,_,_,rfl,F.put T hr hc.1 hc.2, ?_, ?_⟩
  ·rw [zl]
   exact z5 (gh found (r.map (zu:Int→Key)) (.int x)) (xo hl)
  ·rw [eh _ hnew,y3,eB]
   intro d hd
   rcases y2.mp hd with z | z
   ·exact eB.mp hi d z
   ·rw [ye.mp z]; rfl
 ·have c3:runE t0 (.and (.cmp .eq (.bi .len [(.var 5)]) (.int 2)) (.cmp .nmem (.var 4) (.var 1))) (envS rows shuts found (some (.int x,true)) (some (.tup (r.map D.int),true)))=.ok (.bl false,.sto []):=by
   by_cases h2:r.length=2
   ·have hs:x∈shuts:=Classical.byContradiction fun z=>hc ⟨h2,z⟩
    rw [h2] at c1
    rw [decide_eq_true hs] at c2
    exact (cP c1).trans c2
   ·rw [show ((r.length:Int) == 2)=false from beq_eq_false_iff_ne.mpr fun z=>h2 (qm z)] at c1
    exact eS c1
  exact k_ ⟨_,(ae s1).trans (av ((aR c3).trans bx)),found,_,_,rfl,F.skip T hr hc,by rw [zl]; exact we hl,hi⟩
theorem fR (T:bG marks rows shuts):∃ found,bM [.dK (rows.map rowK),.dK (shuts.map dD)]=.ok (.dT found)∧bY rows shuts (· ∈ sortI (rows.map (·.1))) found∧immL (found.map (·.2))=true:=by
 refine zz fun P_ k_=>?_
 obtain ⟨ρ',e,P⟩:=cx (f:=bC [4] true fun ρ1=>al t0 bodyS ρ1) (SSt rows shuts) D.int (sortI (rows.map (·.1))) []
  (envS rows shuts [] none none) ⟨[],none,none,rfl,bY.nil,zf _,rfl⟩ (by
   intro p x q ρ e P
   obtain ⟨found,a,b,eq,F,hl,hi⟩:=P
   subst eq
   have hnd:=h8 T.nr
   rw [show sortI (rows.map (·.1))=p++x::q from e] at hnd
   have hx:x∈rows.map (·.1):=eP.mp (by rw [show sortI (rows.map (·.1))=p++x::q from e]; exact zd _ za)
   obtain ⟨r,hr⟩:=T.inRows hx
   have h1:=congrArg vg (show sortI (rows.map (·.1))=p++x::q from e)
   rw [iU,z7,zl] at h1
   exact turn_S T hr (fun z=>(x4.mp hnd).2.2 x z x za rfl) F hl (z5 (yc _ _) (z5 (xy h1.symm) (z5 T.lr (by decide)))) hi a b)
 obtain ⟨found,a,b,q,F,_,hi⟩:=P
 refine k_ ?_
 refine ⟨found,dA rfl (by decide) ?_,F,hi⟩
 have hI:runI t0 .each [.bi .sorted [.var 0]] (envS rows shuts [] none none)=.ok ((sortI (rows.map (·.1))).map D.int,.sto []):=by
  have hk:kdOf (.lst ((sortI (rows.map (·.1))).map D.int))=.sto []:=by unfold kdOf; rw [if_pos (show (D.lst ((sortI (rows.map (·.1))).map D.int)).flat=true from aX _)]
  rw [rI_1,aK (x:=.dK (rows.map rowK)) (k:=.old) rfl (gu T),hk]
  rfl
 have s3:runS t0 (.for [4] true .each [(.bi .sorted [(.var 0)])] bodyS) (envS rows shuts [] none none)=.nx (rest (envS rows shuts [] none none) (envS rows shuts [] none none) ρ' ([4]++asgs bodyS)):=by
  rw [cE hI rfl]
  have el:ao (envS rows shuts [] none none) (.sto [])=envS rows shuts [] none none:=rfl
  rw [el,e]
  rfl
 refine (ae (ρ':=[some (.dK (rows.map rowK),false),some (.dK (shuts.map dD),false),some (.dT [],true),none,none,none,none]) rfl).trans ((ae (ρ':=envS rows shuts [] none none) rfl).trans ((ae s3).trans ?_))
 rw [q]
 rfl
end
end K12
namespace K12
open Vi
open PySem (Str)
theorem eqLs_il {n:Nat}:∀ a b:List Int,eqLs (eqN (n+1)) (a.map D.int) (b.map D.int)=some (decide (a=b)):=by
 intro x_0
 induction x_0 with
 | nil =>
  intro x_1
  cases x_1 with
  | nil =>
   exact rfl
  | cons _ _ =>
   exact rfl
 | cons x a ih_ =>
  intro x_1
  cases x_1 with
  | nil =>
   exact rfl
  | cons y b =>
   rw [zc,zc]
   simp only [eqLs,eqN_3,eqN_5,eqN_6,ih_ b]
   by_cases h:x=y <;> by_cases h':a=b <;> simp [h,h']
theorem eqD_il (a b:List Int):eqD (.lst (a.map D.int)) (.lst (b.map D.int))=some (decide (a=b)):=eqLs_il (n:=6) a b
theorem eqD_tup (a b:List Int):eqD (.tup (a.map D.int)) (.tup (b.map D.int))=some (decide (a=b)):=eqLs_il (n:=6) a b
theorem sum_il:∀ l:List Int,sumD (l.map D.int)=.ok l.sum:=by
 intro x_0
 induction x_0 with
 | nil =>
  exact rfl
 | cons x l ih_ =>
  rw [zc]; simp [sumD,ih_]
theorem jH {α:Type} (f:α→Bool):∀ l:List α,eI (l.map fun a=>D.bl (f a))=some (l.map f):=by
 intro x_0
 induction x_0 with
 | nil =>
  exact rfl
 | cons x l ih_ =>
  rw [zc]; simp [eI,ih_]
structure UOk (rows:List (Int × List Int)) (sz:Int→Int) (L:List (Key × D)) (U:List Int):Prop where
 done:∀ s∈rows.map (·.1),s∉U→valD L (zu s:Key)=some (.int (sz s))
 not:∀ s,s∈U∨s∉rows.map (·.1)→valD L (zu s:Key)=none
 sub:∀ s∈U,s∈rows.map (·.1)
 nd:U.Nodup
 keys:∀ k∈L.map (·.1),∃ s∈rows.map (·.1),k=zu s
 len:L.length+U.length≤rows.length
section
variable {marks:List (Int × Int)} {rows:List (Int × List Int)} {shuts:List Int} {sz:Int→Int}
theorem UOk.meas {L:List (Key × D)} {h q:List Int} {x:Int} (u:UOk rows sz L (h++x::q)):UOk rows sz (putD L (.inl x) (.int (sz x))) (h++q):=by
 have hx:x∈rows.map (·.1):=u.sub x (by simp)
 have hnd:=u.nd
 have hnew:valD L (zu x:Key)=none:=u.not x (.inl (by simp))
 obtain ⟨n1,n2,n3⟩:=x4.mp hnd
 have hxh:x∉h++q:=fun z=>by
  rcases y2.mp z with z | z
  ·exact n3 x z x za rfl
  ·exact (y0.mp n2).1 z
 refine ⟨fun s hs hn=>?_,fun s hs=>?_,fun s hs=>u.sub s ?_,x4.mpr ⟨n1,(y0.mp n2).2,fun a ha b hb=>n3 a ha b (z8 _ hb)⟩,fun k hk=>?_, ?_⟩
 ·rw [d6]
  by_cases e:s=x
  ·rw [if_pos (by rw [e]),e]
  ·rw [if_neg fun z=>e (u4 z)]
   refine u.done s hs fun z=>hn ?_
   rcases y2.mp z with z | z
   ·exact zk _ z
   ·rcases y6.mp z with z | z
    ·exact absurd z e
    ·exact zd _ z
 ·rw [d6]
  have e:s≠x:=fun z=>by
   subst z
   rcases hs with z | z
   ·exact hxh z
   ·exact z hx
  rw [if_neg fun z=>e (u4 z)]
  refine u.not s (hs.imp (fun z=>?_) id)
  rcases y2.mp z with z | z
  ·exact zk _ z
  ·exact zd _ (z8 _ z)
 ·rcases y2.mp hs with z | z
  ·exact zk _ z
  ·exact zd _ (z8 _ z)
 ·rw [eh _ hnew,y3] at hk
  rcases y2.mp hk with z | z
  ·exact u.keys k z
  ·exact ⟨x,hx,by simpa using z⟩
 ·have:=u.len
  rw [eh _ hnew]
  simp at this ⊢
  (clear u hx hnd hnew n1 n2 n3 hxh; omega)
noncomputable abbrev envL (rows:List (Int × List Int)) (L:List (Key × D)) (W:List Int) (o:Bool) (h:Option (D × Bool)) (w:Option Int) (u:Option (List Int)):Vi.Env :=
 [some (.dK (rows.map rowK),false),some (.dK L,true),some (.lst (W.map D.int),o),h,oi w,ot u,none]
noncomputable abbrev bodyR:List S:=[.set 5 (.dix (.var 0) (.var 4)),.ifs (.bi .any [(.comp (.and (.cmp .mem (.var 6) (.var 0)) (.cmp .nmem (.var 6) (.var 1))) [6] true .each [(.var 5)] (.bl true))]) [.app 3 (.var 4)] [.put 1 (.var 4) (.bi .sum [(.comp (.get2 (.var 1) (.var 6) (.int 1)) [6] true .each [(.var 5)] (.bl true))])]]
theorem turn_len {L:List (Key × D)} {W held q:List Int} {x:Int} {r:List Int} {w:Option Int} {u:Option (List Int)} (T:bG marks rows shuts) (hsz:∀ p,p∉rows.map (·.1)→sz p=1) (hx:(x,r)∈rows) (hs:sz x=(r.map sz).sum) (hr:r.length≤2)
  (U:UOk rows sz L (held++x::q)) :
  bC [4] true (fun ρ1=>al t0 bodyR ρ1)
   (envL rows L W false (some (.lst (held.map D.int),true)) w u) (.int x) =
   if r.any (fun z=>decide (z∈held++x::q))=true then .nx (envL rows L W false (some (.lst ((held++[x]).map D.int),true)) (some x) (some r))
   else .nx (envL rows (putD L (.inl x) (.int (sz x))) W false (some (.lst (held.map D.int),true)) (some x) (some r)):=by
 have hl:=z5 U.len T.lr
 rw [zl,yx] at hl
 have part:∀ z:Int,((valD (rows.map rowK) (zu z:Key)).isSome && !(valD L (zu z:Key)).isSome)=decide (z∈held++x::q):=fun z=>by
  by_cases h1:z∈rows.map (·.1)
  ·obtain ⟨rz,hrz⟩:=T.inRows h1
   rw [T.val hrz]
   by_cases h2:z∈held++x::q
   ·rw [U.not z (.inl h2),decide_eq_true h2]; rfl
   ·rw [U.done z h1 h2,decide_eq_false h2]; rfl
  ·rw [T.valN h1,decide_eq_false fun y=>h1 (U.sub z y)]
   rfl
 let ρ1:Vi.Env:=envL rows L W false (some (.lst (held.map D.int),true)) (some x) (some r)
 have hset:runS t0 (.set 5 (.dix (.var 0) (.var 4))) (envL rows L W false (some (.lst (held.map D.int),true)) (some x) u)=.nx ρ1 :=
  aA (d9 (x:=.dK (rows.map rowK)) (y:=.int x) rfl rfl (congrArg some (T.val hx)) (bA r)) rfl
 have hI:runI t0 .each [.var 5] ρ1=.ok (r.map D.int,.sto []):=by
  rw [rI_1,aD (jx (i:=5) rfl (bA r))]
  rfl
 have hrl:(r.map D.int).length≤1000000:=by rw [z7]; exact z5 hr (by decide)
 have hb:∀ z:Int,cn (inComp ρ1 [6]) [6] true (.int z) .old=some ((inComp ρ1 [6]).set 6 (some (.int z,true))):=fun _=>rfl
 have c1:runE t0 (.comp (.and (.cmp .mem (.var 6) (.var 0)) (.cmp .nmem (.var 6) (.var 1))) [6] true .each [(.var 5)] (.bl true)) ρ1=.ok (.lst (r.map fun z=>D.bl (decide (z∈held++x::q))),.sto []):=by
  refine bV (b:=true) hI hrl (bU D.int (fun z=>D.bl (decide (z∈held++x::q))) r fun z _=>cD (hb z) (by rw [fT]; rfl) ?_)
  have a1:runE t0 (.cmp .mem (.var 6) (.var 0)) ((inComp ρ1 [6]).set 6 (some (.int z,true)))=.ok (.bl (valD (rows.map rowK) (zu z:Key)).isSome,.sto []):=aV rfl rfl rfl
  have a2:runE t0 (.cmp .nmem (.var 6) (.var 1)) ((inComp ρ1 [6]).set 6 (some (.int z,true)))=.ok (.bl (!(valD L (zu z:Key)).isSome),.sto []):=aV rfl rfl rfl
  rw [← part z]
  cases h1:(valD (rows.map rowK) (zu z:Key)).isSome with
  | true=>rw [h1] at a1; exact (cP a1).trans a2
  | false=>rw [h1] at a1; exact eS a1
 have hany:biD .any [.lst (r.map fun z=>D.bl (decide (z∈held++x::q)))]=.ok (.bl (r.any fun z=>decide (z∈held++x::q))):=by
  rw [biD_5,jH]
  show R.ok (D.bl ((r.map fun z=>decide (z∈held++x::q)).any id))=_
  rw [List.any_map]
  rfl
 have ht:∀ {o:Out},al t0 (bodyR.drop 1) ρ1=o→bC [4] true (fun ρ1=>al t0 bodyR ρ1) (envL rows L W false (some (.lst (held.map D.int),true)) w u) (.int x)=o:=fun h=>(ae hset).trans h
 refine ht ?_
 by_cases h:r.any (fun z=>decide (z∈held++x::q))=true
 ·rw [if_pos h]
  rw [h] at hany
  refine av ((bu (aK c1 hany)).trans (av ?_))
  have:=gz (M:=t0) (ρ:=ρ1) (i:=3) (e:=.var 4) (l:=held.map D.int) (d:=.int x) rfl rfl (by rw [z7]; exact zg (z5 (yc _ _) (z5 (w9 _ _) hl)) (by decide))
  rw [this,y3]
  rfl
 ·rw [if_neg h]
  rw [Bool.eq_false_iff.mpr h] at hany
  have hz:∀ z∈r,z∉held++x::q:=fun z hz hm=>h (se.mpr ⟨z,hz,decide_eq_true hm⟩)
  have c2:runE t0 (.comp (.get2 (.var 1) (.var 6) (.int 1)) [6] true .each [(.var 5)] (.bl true)) ρ1=.ok (.lst ((r.map sz).map D.int),.sto []):=by
   rw [show (r.map sz).map D.int=r.map fun z=>D.int (sz z) by rw [ym]; rfl]
   refine bV (b:=true) hI hrl (bU D.int (fun z=>D.int (sz z)) r fun z hzr=>cD (hb z) (by rw [fT]; rfl) (run_get2 (x:=.dK L) (y:=.int z) (w:=.int 1) rfl rfl rfl rfl ?_ rfl))
   by_cases h1:z∈rows.map (·.1)
   ·rw [U.done z h1 (hz z hzr)]; rfl
   ·rw [U.not z (.inr h1),hsz z h1]; rfl
  have c3:=aK (M:=t0) c2 (b:=.sum) (z:=.int (sz x)) (by rw [biD_4,sum_il,hs])
  exact av ((aR (aK c1 hany)).trans (av (fj c3 rfl rfl rfl (by simp only [gU,cA]; rw [if_pos (zg (z5 (yc _ _) hl) (by decide))]))))
end
end K12
namespace K12
open Vi
open PySem (Str)
section
variable {marks:List (Int × Int)} {rows:List (Int × List Int)} {shuts:List Int} {sz:Int→Int}
theorem least_idx (idx:Int→Nat):∀ (W:List Int),W≠[]→∃ x∈W,∀ y∈W,idx x≤idx y
 | [],h=>absurd rfl h
 | [x],_=>⟨x,by simp,fun y hy=>by
  have e:y=x:=by simpa using hy
  rw [e]
  exact zf _⟩
 | x::y::l,_=>by
  obtain ⟨z,hz,hm⟩:=least_idx idx (y::l) (by simp)
  by_cases h:idx x≤idx z
  ·refine ⟨x,by simp,fun v hv=>?_⟩
   rcases y6.mp hv with e | e
   ·rw [e]; exact zf _
   ·exact z5 h (hm v e)
  ·refine ⟨z,z8 _ hz,fun v hv=>?_⟩
   rcases y6.mp hv with e | e
   ·rw [e]; (clear hz hm hv e; omega)
   ·exact hm v e
noncomputable abbrev roundB:List S:=[.set 3 (.lst []),.for [4] true .each [(.var 2)] bodyR,.ifs (.cmp .eq (.var 3) (.var 2)) [.raise] [],.set 2 (.var 3)]
inductive RSt (rows:List (Int × List Int)) (sz:Int→Int) (W p:List Int) (ρ:Vi.Env):Prop
 | mk (L:List (Key × D)) (held:List Int) (w:Option Int) (u:Option (List Int)) (q:List Int) (e:ρ=envL rows L W false (some (.lst (held.map D.int),true)) w u) (hq:W=p++q) (U:UOk rows sz L (held++q)) (hsub:held.Sublist p) (hh:∀ y∈held,∃ r,(y,r)∈rows∧∃ z∈r,z∈W)
theorem round_ok (T:bG marks rows shuts) (hr:∀ s r,(s,r)∈rows→r.length≤2) (hsz:∀ p,p∉rows.map (·.1)→sz p=1) (hss:∀ s r,(s,r)∈rows→sz s=(r.map sz).sum) {L:List (Key × D)} {W:List Int} {h:Option (D × Bool)} {w:Option Int} {u:Option (List Int)} (U:UOk rows sz L W) (hW:W≠[]) :
  ∃ L' W' w' u',al t0 roundB (envL rows L W true none w u)=.nx (envL rows L' W' true none w' u')∧UOk rows sz L' W'∧W'.length < W.length:=by
 obtain ⟨idx,hidx⟩:=T.ahead
 obtain ⟨ρ',e,P⟩:=cx (f:=bC [4] true fun ρ1=>al t0 bodyR ρ1) (RSt rows sz W) D.int W []
  (envL rows L W false (some (.lst [],true)) w u) ⟨L,[],w,u,W,rfl,rfl,U,ra _,fun y hy=>nomatch hy⟩ (by
   intro p x q0 ρ e P
   refine zv fun P_ k_=>?_
   obtain ⟨L1,held,w1,u1,q,er,hq,U1,hsub,hheld⟩:=P
   have e:W=p++x::q0:=e
   have eq:q=x::q0:=List.append_cancel_left (hq.symm.trans e)
   subst eq
   subst er
   obtain ⟨r,hx⟩:=T.inRows (U1.sub x (zd _ za))
   have ht:=turn_len (W:=W) (w:=w1) (u:=u1) T hsz hx (hss x r hx) (hr x r hx) U1
   have eW:W=p++[x]++q0:=by rw [e,wy]; rfl
   by_cases hc:r.any (fun z=>decide (z∈held++x::q0))=true
   ·rw [if_pos hc] at ht
    refine k_ ⟨_,ht,L1,held++[x],some x,some r,q0,rfl,eW,by rw [wy]; exact U1,hsub.append (ra _),fun y hy=>?_⟩
    rcases y2.mp hy with z | z
    ·exact hheld y z
    ·rw [ye.mp z]
     obtain ⟨z,hz,hm⟩:=se.mp hc
     refine ⟨r,hx,z,hz, ?_⟩
     rw [e]
     exact (y2.mp (of_decide_eq_true hm)).elim (fun v=>zk _ (hsub.subset v)) fun v=>zd _ v
   ·rw [if_neg hc] at ht
    exact k_ ⟨_,ht,_,held,some x,some r,q0,rfl,eW,U1.meas,hsub.trans (List.sublist_append_left _ _),hheld⟩)
 obtain ⟨L',held,w',u',q,e1,e2,U',hsub,hheld⟩:=P
 have eq:q=[]:=List.append_cancel_left (e2.symm.trans (xf W).symm)
 subst eq
 rw [xf] at U'
 have hsub:held.Sublist W:=hsub
 have hne:held≠W:=fun z=>by
  subst z
  obtain ⟨x,hx,hm⟩:=least_idx idx held hW
  obtain ⟨r,h1,z,hz,hzW⟩:=hheld x hx
  exact absurd (hidx x r h1 z hz (U.sub z hzW)) (t9.mpr (hm z hzW))
 have hI:runI t0 .each [.var 2] (envL rows L W true (some (.lst [],true)) w u)=.ok (W.map D.int,.sto [2]):=by rw [rI_1,bF]; rfl
 have s2:runS t0 (.for [4] true .each [(.var 2)] bodyR) (envL rows L W true (some (.lst [],true)) w u)=.nx (envL rows L' W true (some (.lst (held.map D.int),true)) w' u'):=by
  rw [cE hI rfl,show ao (envL rows L W true (some (.lst [],true)) w u) (.sto [2])=envL rows L W false (some (.lst [],true)) w u by cases w <;> cases u <;> rfl,e,e1]
  cases w' <;> cases u' <;> rfl
 have c3:runE t0 (.cmp .eq (.var 3) (.var 2)) (envL rows L' W true (some (.lst (held.map D.int),true)) w' u')=.ok (.bl false,.sto []):=aV rfl rfl (by rw [iE,eqD_il,decide_eq_false hne])
 exact ⟨L',held,w',u',(ae (ρ':=envL rows L W true (some (.lst [],true)) w u) rfl).trans ((ae s2).trans ((ae ((aR c3).trans bx)).trans (av (aA rfl rfl)))),U',Nat.lt_of_not_le fun z=>hne (hsub.eq_of_length (Nat.le_antisymm hsub.length_le z))⟩
theorem while_ok (T:bG marks rows shuts) (hr:∀ s r,(s,r)∈rows→r.length≤2) (hsz:∀ p,p∉rows.map (·.1)→sz p=1) (hss:∀ s r,(s,r)∈rows→sz s=(r.map sz).sum):∀ (n:Nat) (L:List (Key × D)) (W:List Int) (w:Option Int) (u:Option (List Int)),W.length < n→UOk rows sz L W →
  ∃ L' w' u',whlL (fun ρ'=>tru1 (runE t0 (.var 2) ρ')) (fun ρ'=>al t0 roundB ρ') n (envL rows L W true none w u)=.nx (envL rows L' [] true none w' u')∧UOk rows sz L' []:=by
 intro x_0
 induction x_0 with
 | zero =>
  intro _ _ _ _ h _
  exact absurd ‹_ < _› (wo _)
 | succ n ih_ =>
  intro L W w u h U
  cases W with
  | nil=>exact ⟨L,w,u,whl_f (show tru1 (runE t0 (.var 2) (envL rows L [] true none w u))=.ok false by rw [bF]; rfl),U⟩
  | cons x W =>
   refine zz fun P_ k_=>?_
   obtain ⟨L1,W1,w1,u1,e1,U1,hl⟩:=round_ok (h:=none) (w:=w) (u:=u) T hr hsz hss U (List.cons_ne_nil _ _)
   obtain ⟨L',w',u',e2,U2⟩:=ih_ L1 W1 w1 u1 (zm hl (wf h)) U1
   refine k_ ?_
   exact ⟨L',w',u',(whl_t (show tru1 (runE t0 (.var 2) (envL rows L (x::W) true none w u))=.ok true by rw [bF]; rfl) e1).trans e2,U2⟩
theorem gR (T:bG marks rows shuts) (hr:∀ s r,(s,r)∈rows→r.length≤2) (hsz:∀ p,p∉rows.map (·.1)→sz p=1) (hss:∀ s r,(s,r)∈rows→sz s=(r.map sz).sum):∃ L,bS [.dK (rows.map rowK)]=.ok (.dK L)∧UOk rows sz L []:=by
 have U0:UOk rows sz [] (sortI (rows.map (·.1))):=⟨fun s hs hn=>absurd (eP.mpr hs) hn,fun s _=>rfl,fun s hs=>eP.mp hs,h8 T.nr,fun k hk=>(nomatch hk),by rw [iU]; simp⟩
 have hW:(sortI (rows.map (·.1))).length < 1000000:=by rw [iU,z7]; have:=T.lr; exact zg ‹_› (by decide)
 obtain ⟨L,w,u,e,U⟩:=while_ok T hr hsz hss 1000000 [] _ none none hW U0
 refine ⟨L,dA rfl (by decide) ?_,U⟩
 show al t0 [.set 1 (.dnew false),.set 2 (.bi .sorted [(.var 0)]),.whl 1000000 (.var 2) roundB,.ret (.var 1)] [some (.dK (rows.map rowK),false),none,none,none,none,none,none]=_
 refine (ae (ρ':=[some (.dK (rows.map rowK),false),some (.dK [],true),none,none,none,none,none]) rfl).trans ((ae (ρ':=envL rows [] (sortI (rows.map (·.1))) true none none none) ?_).trans ((ae (ρ':=envL rows L [] true none w u) (by rw [iZ]; exact e)).trans rfl))
 have:=aK (M:=t0) (a:=.var 0) (ρ:=[some (.dK (rows.map rowK),false),some (.dK [],true),none,none,none,none,none]) (k:=.old) rfl (gu T)
 rw [jm (aX _)] at this
 exact aA this rfl
theorem keys_ints {P:Int→Prop}:∀ {L:List (Key × D)},(∀ k∈L.map (·.1),∃ s,P s∧k=zu s)→∃ ns:List Int,(L.map fun kv=>keyD kv.1)=ns.map D.int∧∀ s∈ns,P s:=by
 intro x_0
 induction x_0 with
 | nil =>
  intro _
  exact ⟨[],rfl,fun s hs=>nomatch hs⟩
 | cons p_0 L ih_ =>
  obtain ⟨k,v⟩:=p_0
  intro h
  obtain ⟨ns,e,hn⟩:=ih_ fun k hk=>h k (z8 _ hk)
  obtain ⟨s,hs,ek⟩:=h k za
  refine ⟨s::ns, ?_,fun t ht=>?_⟩
  ·rw [zc,zc,e,ek]; rfl
  ·rcases y6.mp ht with z | z
   ·rw [z]; exact hs
   ·exact hn t z
theorem too_long_ok {L:List (Key × D)} (U:UOk rows sz L []) (h16:∀ s r,(s,r)∈rows→sz s≤16) (T:bG marks rows shuts):bv [.dK L]=.ok .non:=by
 obtain ⟨ns,en,hns⟩:=keys_ints (P:=fun s=>s∈rows.map (·.1)) (L:=L) fun k hk=>let ⟨s,h1,h2⟩:=U.keys k hk; ⟨s,h1,h2⟩
 obtain ⟨ρ',e,w,q⟩:=cx (f:=bC [1] true fun ρ1=>al t0 [.ifs (.cmp .gt (.dix (.var 0) (.var 1)) (.glb (.int 16))) [.raise] []] ρ1)
  (fun pre ρ=>∃ w,ρ=[some (.dK L,false),oi w]) D.int (sortI ns) [] [some (.dK L,false),none] ⟨none,rfl⟩ (by
   intro p x q ρ e ⟨w,er⟩
   subst er
   have hx:x∈ns:=eP.mp (by rw [show sortI ns=p++x::q from e]; exact zd _ za)
   obtain ⟨r,hr⟩:=T.inRows (hns x hx)
   have c:runE t0 (.cmp .gt (.dix (.var 0) (.var 1)) (.glb (.int 16))) [some (.dK L,false),some (.int x,true)]=.ok (.bl (decide (16 < sz x)),.sto []):=aV (gy (x:=.dK L) (y:=.int x) rfl rfl (congrArg some (U.done x (hns x hx) xg))) rfl rfl
   rw [decide_eq_false (u9.mpr (h16 x r hr))] at c
   exact ⟨_,av ((aR c).trans bx),some x,rfl⟩)
 refine fn_nx (ρ:=[some (.dK L,false),oi w]) rfl (by decide) (av ?_)
 have hnl:ns.length < 64:=by
  have h1:=congrArg vg en
  rw [z7,z7] at h1
  exact zg (z5 (xy h1.symm) (z5 U.len T.lr)) (by decide)
 have hi:=aK (M:=t0) (a:=.var 0) (ρ:=[some (.dK L,false),none]) (k:=.old) (b:=.sorted) (x:=.dK L) (z:=.lst ((sortI ns).map D.int)) rfl (by rw [fP,en,sort_il _ hnl])
 rw [jm (aX _)] at hi
 have hI:runI t0 .each [.bi .sorted [.var 0]] [some (.dK L,false),none]=.ok ((sortI ns).map D.int,.sto []):=by rw [rI_1,hi]; rfl
 show runS t0 (.for [1] true .each [(.bi .sorted [(.var 0)])] _) [some (.dK L,false),none]=_
 rw [cE hI rfl,show ao [some (.dK L,false),none] (.sto [])=[some (.dK L,false),none] from rfl,e,q]
 cases w <;> rfl
end
end K12
namespace K12
open Vi
open PySem (Str)
section
variable {marks:List (Int × Int)} {rows:List (Int × List Int)} {shuts:List Int}
noncomputable abbrev tabD (marks:List (Int × Int)) (rows:List (Int × List Int)) (shuts:List Int) (found:List (List Key × D)):D :=
 .obj 0 [("rank_by_sign", .dK (marks.map da)), ("row_by_sign", .dK (rows.map rowK)), ("shut_by_sign", .dK (shuts.map dD)), ("sign_by_pair", .dT found)]
theorem n1 : (("row_by_sign" : Str) == ("rank_by_sign" : Str)) = false := by decide +kernel
theorem n2 : (("shut_by_sign" : Str) == ("rank_by_sign" : Str)) = false := by decide +kernel
theorem n3 : (("shut_by_sign" : Str) == ("row_by_sign" : Str)) = false := by decide +kernel
theorem n4 : (("sign_by_pair" : Str) == ("rank_by_sign" : Str)) = false := by decide +kernel
theorem n5 : (("sign_by_pair" : Str) == ("row_by_sign" : Str)) = false := by decide +kernel
theorem n6 : (("sign_by_pair" : Str) == ("shut_by_sign" : Str)) = false := by decide +kernel
theorem table_ok (T:bG marks rows shuts):∃ found,dR [.lst (marks.map bW),.lst (rows.map rowD),.lst (shuts.map D.int)]=.ok (tabD marks rows shuts found)∧bY rows shuts (· ∈ sortI (rows.map (·.1))) found:=by
 obtain ⟨found,hf,F,hfi⟩:=fR T
 refine ⟨found, ?_,F⟩
 obtain ⟨sz,h1,h2⟩:=T.size
 obtain ⟨L,hL,U⟩:=gR T (fun s r h=>by rcases T.short s r h with z | z <;> (clear T hf F hfi h1 h2 h; omega)) h2 (fun s r h=>(h1 s r h).1)
 have htl:=too_long_ok U (fun s r h=>(h1 s r h).2) T
 have htw:=gA marks rows shuts T.nodup T.sh (by have:=T.few; exact z5 ‹_› (by decide)) (by have:=T.fewS; exact z5 ‹_› (by decide))
 have hnp:=no_pair_ok T
 let rest:List (Option (D × Bool)):=[some (.lst (marks.map bW),false),some (.lst (rows.map rowD),false),some (.lst (shuts.map D.int),false),none]
 have cc:∀ o,runE t2 (.comp (.tup [(.var 4),(.bl true)]) [4] true .each [(.var 3)] (.bl true)) (some (o,true)::rest)=.ok (.lst (shuts.map shutD),.sto []):=fun o =>
  bV (b:=true) (xs:=shuts.map D.int) (k:=.old) (by rw [rI_1,bF]; rfl) (by rw [z7]; exact z5 T.fewS (by decide)) (bU D.int shutD shuts fun m _=>cD (ρ1:=(inComp (some (o,true)::rest) [4]).set 4 (some (.int m,true))) rfl (by rw [fT]; rfl) rfl)
 have i1:immL ((marks.map da).map (·.2))=true:=by rw [ym]; exact cX _ (fun r=>rfl) marks
 have i2:immL ((rows.map rowK).map (·.2))=true:=by rw [ym]; exact cX _ (fun r=>bA r.2) rows
 have i3:immL ((shuts.map dD).map (·.2))=true:=by rw [ym]; exact cX _ (fun r=>rfl) shuts
 let f1 : List (Str × D) := [("rank_by_sign", .dK (marks.map da))]
 let f2 : List (Str × D) := [("rank_by_sign", .dK (marks.map da)), ("row_by_sign", .dK (rows.map rowK))]
 let f3 : List (Str × D) := [("rank_by_sign", .dK (marks.map da)), ("row_by_sign", .dK (rows.map rowK)), ("shut_by_sign", .dK (shuts.map dD))]
 have lr : ∀ {r : List (Str × D)}, wk ("row_by_sign" : Str) (("rank_by_sign", .dK (marks.map da)) :: ("row_by_sign", .dK (rows.map rowK)) :: r) = some (.dK (rows.map rowK)) := fun {r} => by rw [yf, n1]; exact List.lookup_cons_self
 have s1:runS t2 (.expr (.call 1 [(.var 1),(.var 2),(.var 3)])) (some (.obj 0 [],true)::rest)=.nx (some (.obj 0 [],true)::rest):=i6 (aE (ds:=[.lst (marks.map bW),.lst (rows.map rowD),.lst (shuts.map D.int)]) rfl htw)
 have s2 : runS t2 (.fset "rank_by_sign" (.bi .dict [(.var 1)])) (some (.obj 0 [], true) :: rest) = .nx (some (.obj 0 f1, true) :: rest) := by
  refine gg (fs:=[]) ?_ (by decide) rfl
  rw [aK (x:=.lst (marks.map bW)) (k:=.old) rfl (dict_marks T),kd_dK i1]
 have s3 : runS t2 (.fset "row_by_sign" (.bi .dict [(.var 2)])) (some (.obj 0 f1, true) :: rest) = .nx (some (.obj 0 f2, true) :: rest) := by
  refine gg (fs:=f1) ?_ (show 1 < 900 by decide) (by show wk _ [_]=_; rw [yf,n1]; rfl)
  rw [aK (x:=.lst (rows.map rowD)) (k:=.old) rfl (dict_rows T),kd_dK i2]
 have s4 : runS t2 (.fset "shut_by_sign" (.bi .dict [(.comp (.tup [(.var 4), (.bl true)]) [4] true .each [(.var 3)] (.bl true))])) (some (.obj 0 f2, true) :: rest) = .nx (some (.obj 0 f3, true) :: rest) := by
  refine gg (fs:=f2) ?_ (show 2 < 900 by decide) (by show wk _ [_,_]=_; rw [yf,n2,yf,n3]; rfl)
  rw [aK (cc (.obj 0 f2)) (dict_shuts T),kd_dK i3]
 have s5 : runS t2 (.expr (.call 2 [(.fld (.var 0) "row_by_sign"), (.var 3)])) (some (.obj 0 f3, true) :: rest) = .nx (some (.obj 0 f3, true) :: rest) := i6 (aE (ak (i5 (aD (bB rfl rfl)) lr) (ak (x := .lst (shuts.map D.int)) rfl aJ)) hnp)
 have s6 : runS t2 (.fset "sign_by_pair" (.call 3 [(.fld (.var 0) "row_by_sign"), (.fld (.var 0) "shut_by_sign")])) (some (.obj 0 f3, true) :: rest) = .nx (some (tabD marks rows shuts found, true) :: rest) :=
  gg (fs:=f3) (aE (ak (i5 (aD (bB rfl rfl)) lr) (ak (i5 (d:=.dK (shuts.map dD)) (aD (bB rfl rfl)) (by show wk _ [_,_,_]=_; rw [yf,n2,yf,n3]; exact List.lookup_cons_self)) aJ)) hf) (show 3 < 900 by decide) (by show wk _ [_,_,_]=_; rw [yf,n4,yf,n5,yf,n6]; rfl)
 have s7 : runS t2 (.expr (.call 5 [(.call 4 [(.fld (.var 0) "row_by_sign")])])) (some (tabD marks rows shuts found, true) :: rest) = .nx (some (tabD marks rows shuts found, true) :: rest) :=
  i6 (aE (ak (aE (ak (i5 (aD (bB rfl rfl)) lr) aJ) hL) aJ) htl)
 have all:al t2 cC.body (some (.obj 0 [],true)::rest)=.nx (some (tabD marks rows shuts found,true)::rest) :=
  (ae s1).trans ((ae s2).trans ((ae s3).trans ((ae s4).trans ((ae s5).trans ((ae s6).trans (av s7))))))
 unfold dR Fn.init
 rw [if_pos ⟨rfl,by decide⟩]
 show (match al t2 cC.body (some (.obj 0 [],true)::rest) with | .nx ρ=>(match ρ[(0:Nat)]? with | some (some (d,true))=>R.ok d | _=>.bad) | .ex x=>.ex x | _=>.bad)=_
 rw [all]
 rfl
end
end K12
namespace K12
open Vi
open PySem (Str)
structure Good (pool:List Int) (marks:List (Int × Int)) (rows:List (Int × List Int)) (shuts:List Int) (sizes:List (Key × D)) (sz:Int→Int) (idx:Int→Nat):Prop where
 pn:pool.Nodup
 nodup:(marks.map (·.1)++rows.map (·.1)).Nodup
 mp:∀ s∈marks.map (·.1),s∈pool
 rp:∀ s∈rows.map (·.1),s∈pool
 sh:shuts.Nodup
 two:∀ s∈shuts,∃ r,(s,r)∈rows∧r.length=2
 same:∀ s t r,(s,r)∈rows→(t,r)∈rows→r.length=2→s∉shuts→t∉shuts→s=t
 short:∀ s r,(s,r)∈rows→r.length=1∨r.length=2
 parts:∀ s r,(s,r)∈rows→∀ p∈r,p∈pool
 szs:∀ s∈pool,valD sizes (zu s:Key)=some (.int (sz s))
 szr:∀ s r,(s,r)∈rows→sz s=(r.map sz).sum∧sz s≤16
 sz1:∀ p,p∉rows.map (·.1)→sz p=1
 ix:∀ p∈pool,idx p < pool.length
 ixr:∀ s r,(s,r)∈rows→∀ p∈r,idx p < idx s
 lm:marks.length+rows.length≤pool.length
 ls:shuts.length≤pool.length
 lz:sizes.length≤pool.length
theorem Good.tab {pool:List Int} {marks:List (Int × Int)} {rows:List (Int × List Int)} {shuts:List Int} {sizes:List (Key × D)} {sz:Int→Int} {idx:Int→Nat} (G:Good pool marks rows shuts sizes sz idx) (h:pool.length≤60):bG marks rows shuts :=
 ⟨G.nodup,G.sh,G.two,G.same,G.short,by have:=G.lm; exact z5 ‹_› ‹_›,by have:=G.ls; exact z5 ‹_› ‹_›,⟨idx,fun s r hr p hp _=>G.ixr s r hr p hp⟩,⟨sz,G.szr,G.sz1⟩⟩
theorem Good.nil:Good [] [] [] [] [] (fun _=>1) (fun _=>0) :=
 ⟨vm,vm,fun _ h=>(nomatch h),fun _ h=>(nomatch h),vm,fun _ h=>(nomatch h),fun _ _ _ h=>(nomatch h),fun _ _ h=>(nomatch h),fun _ _ h=>(nomatch h),fun _ h=>(nomatch h),fun _ _ h=>(nomatch h),fun _ _=>rfl,fun _ h=>(nomatch h),fun _ _ h=>(nomatch h),zf _,zf _,zf _⟩
section
variable {pool:List Int} {marks:List (Int × Int)} {rows:List (Int × List Int)} {shuts:List Int} {sizes:List (Key × D)} {sz:Int→Int} {idx:Int→Nat} {x:Int}
theorem cN {α:Type} {l:List α} {x:α} (h:l.Nodup) (hx:x∉l):(l++[x]).Nodup:=x4.mpr ⟨h,by simp,fun a ha b hb e=>by
 have:b=x:=by simpa using hb
 rw [e,this] at ha
 exact hx ha⟩
theorem Good.idx1 (G:Good pool marks rows shuts sizes sz idx) (hx:x∉pool):(∀ p∈pool++[x],(if p=x then pool.length else idx p) < (pool++[x]).length)∧(∀ s r,(s,r)∈rows→∀ p∈r,(if p=x then pool.length else idx p) < (if s=x then pool.length else idx s)):=by
 refine ⟨fun p hp=>?_,fun s r hr p hp=>?_⟩
 ·rw [zl,xx]
  by_cases e:p=x
  ·rw [if_pos e]; exact zf _
  ·rw [if_neg e]
   rcases y2.mp hp with z | z
   ·have:=G.ix p z; exact we ‹_›
   ·exact absurd (by simpa using z) e
 ·have h1:p≠x:=fun e=>hx (e ▸ G.parts s r hr p hp)
  have h2:s≠x:=fun e=>hx (e ▸ G.rp s (yw.mpr ⟨_,hr,rfl⟩))
  rw [if_neg h1,if_neg h2]
  exact G.ixr s r hr p hp
theorem Good.put (G:Good pool marks rows shuts sizes sz idx) {v:Int} (hx:x∉pool) (sz':Int→Int) (h1:sz' x=v) (h2:∀ p∈pool,sz' p=sz p):∀ s∈pool++[x],valD (putD sizes (.inl x) (.int v)) (zu s:Key)=some (.int (sz' s)):=fun s hs=>by
 rw [d6]
 by_cases e:s=x
 ·rw [if_pos (by rw [e]),e,h1]
 ·rw [if_neg fun z=>e (u4 z)]
  rcases y2.mp hs with z | z
  ·rw [G.szs s z,h2 s z]
  ·exact absurd (by simpa using z) e
theorem Good.bare (G:Good pool marks rows shuts sizes sz idx) (hx:x∉pool) {marks':List (Int × Int)} (hm:marks'=marks∨∃ k,marks'=marks++[(x,k)]):Good (pool++[x]) marks' rows shuts (putD sizes (.inl x) (.int 1)) sz (fun p=>if p=x then pool.length else idx p):=by
 have hxr:x∉rows.map (·.1):=fun z=>hx (G.rp x z)
 have hxm:x∉marks.map (·.1):=fun z=>hx (G.mp x z)
 obtain ⟨i1,i2⟩:=G.idx1 hx
 have pl:=gh sizes (zu x:Key) (.int 1)
 have lz:=G.lz
 have lm:=G.lm
 have ls:=G.ls
 refine ⟨cN G.pn hx, ?_, ?_,fun s hs=>zk _ (G.rp s hs),G.sh,G.two,G.same,G.short,fun s r hr p hp=>zk _ (G.parts s r hr p hp),G.put hx sz (G.sz1 x hxr) (fun _ _=>rfl),G.szr,G.sz1,i1,i2, ?_, ?_, ?_⟩
 ·rcases hm with e | ⟨k,e⟩
  ·rw [e]; exact G.nodup
  ·rw [e,y3]
   have:=G.nodup
   obtain ⟨a1,a2,a3⟩:=x4.mp this
   refine x4.mpr ⟨cN a1 hxm,a2,fun a ha b hb=>?_⟩
   rcases y2.mp ha with z | z
   ·exact a3 a z b hb
   ·have:a=x:=by simpa using z
    rw [this]; intro e; exact hxr (e ▸ hb)
 ·intro s hs
  rcases hm with e | ⟨k,e⟩
  ·rw [e] at hs; exact zk _ (G.mp s hs)
  ·rw [e,y3] at hs
   rcases y2.mp hs with z | z
   ·exact zk _ (G.mp s z)
   ·exact zd _ (by simpa using z)
 ·rcases hm with e | ⟨k,e⟩ <;> rw [e] <;> simp <;> (clear G hx hxr hxm i1 i2 pl lz ls e; omega)
 ·simp; exact we ‹_›
 ·simp; (clear G hx hm hxr hxm i1 i2 lm ls; omega)
theorem Good.row (G:Good pool marks rows shuts sizes sz idx) (hx:x∉pool) {r:List Int} (hr:∀ p∈r,p∈pool) (hl:r.length=1∨r.length=2) (hs:(r.map sz).sum≤16) {shuts':List Int} (hsh:(shuts'=shuts++[x]∧r.length=2)∨(shuts'=shuts∧(r.length=2→∀ t,(t,r)∈rows→t∈shuts))) :
  Good (pool++[x]) marks (rows++[(x,r)]) shuts' (putD sizes (.inl x) (.int ((r.map sz).sum))) (fun p=>if p=x then (r.map sz).sum else sz p) (fun p=>if p=x then pool.length else idx p):=by
 have hxr:x∉rows.map (·.1):=fun z=>hx (G.rp x z)
 have hxm:x∉marks.map (·.1):=fun z=>hx (G.mp x z)
 have hxs:x∉shuts:=fun z=>by
  obtain ⟨r',h1,_⟩:=G.two x z
  exact hxr (yw.mpr ⟨_,h1,rfl⟩)
 obtain ⟨i1,i2⟩:=G.idx1 hx
 have pl:=gh sizes (zu x:Key) (.int ((r.map sz).sum))
 have lz:=G.lz
 have lm:=G.lm
 have ls:=G.ls
 have hmem:∀ {s:Int} {q:List Int},(s,q)∈rows++[(x,r)]→(s,q)∈rows∨(s=x∧q=r):=fun {s q} h=>by
  rcases y2.mp h with z | z
  ·exact .inl z
  ·have:(s,q)=(x,r):=by simpa using z
   cases this
   exact .inr ⟨rfl,rfl⟩
 have hszp:∀ {q:List Int},(∀ p∈q,p∈pool)→q.map (fun p=>if p=x then (r.map sz).sum else sz p)=q.map sz:=fun {q} hq=>by
  refine qf fun p hp=>?_
  rw [if_neg fun (e:p=x)=>hx (e ▸ hq p hp)]
 have sub:∀ t,t∉shuts'→t∉shuts:=fun t h z=>h (by
  rcases hsh with ⟨e,_⟩ | ⟨e,_⟩
  ·rw [e]; exact zk _ z
  ·rw [e]; exact z)
 refine ⟨cN G.pn hx, ?_,fun s hs=>zk _ (G.mp s hs), ?_, ?_, ?_, ?_, ?_, ?_,G.put hx _ (by rw [if_pos rfl]) (fun p hp=>by rw [if_neg fun (e:p=x)=>hx (e ▸ hp)]), ?_, ?_,i1, ?_, ?_, ?_, ?_⟩
 ·rw [y3,← wy]
  refine cN G.nodup fun z=>?_
  rcases y2.mp z with z | z
  ·exact hxm z
  ·exact hxr z
 ·intro s hs
  rw [y3] at hs
  rcases y2.mp hs with z | z
  ·exact zk _ (G.rp s z)
  ·exact zd _ (by simpa using z)
 ·rcases hsh with ⟨e,_⟩ | ⟨e,_⟩
  ·rw [e]; exact cN G.sh hxs
  ·rw [e]; exact G.sh
 ·intro s hs'
  have:s∈shuts∨(s=x∧r.length=2):=by
   rcases hsh with ⟨e,h2⟩ | ⟨e,_⟩
   ·rw [e] at hs'
    rcases y2.mp hs' with z | z
    ·exact .inl z
    ·exact .inr ⟨by simpa using z,h2⟩
   ·rw [e] at hs'; exact .inl hs'
  rcases this with z | ⟨z,h2⟩
  ·obtain ⟨q,h1,h2⟩:=G.two s z
   exact ⟨q,zk _ h1,h2⟩
  ·rw [z]; exact ⟨r,by simp,h2⟩
 ·intro s t q hs1 ht1 h2 ns nt
  rcases hmem hs1 with z | ⟨z,zq⟩
  ·rcases hmem ht1 with y | ⟨y,yq⟩
   ·exact G.same s t q z y h2 (sub s ns) (sub t nt)
   ·subst yq
    rcases hsh with ⟨e,_⟩ | ⟨e,h⟩
    ·rw [e,y] at nt; simp at nt
    ·exact absurd (h h2 s z) (sub s ns)
  ·rcases hmem ht1 with y | ⟨y,yq⟩
   ·subst zq
    rcases hsh with ⟨e,_⟩ | ⟨e,h⟩
    ·rw [e,z] at ns; simp at ns
    ·exact absurd (h h2 t y) (sub t nt)
   ·rw [z,y]
 ·intro s q h
  rcases hmem h with z | ⟨z,zq⟩
  ·exact G.short s q z
  ·rw [zq]; exact hl
 ·intro s q h p hp
  rcases hmem h with z | ⟨z,zq⟩
  ·exact zk _ (G.parts s q z p hp)
  ·rw [zq] at hp; exact zk _ (hr p hp)
 ·intro s q h
  rcases hmem h with z | ⟨z,zq⟩
  ·have hsx:s≠x:=fun e=>hxr (e ▸ yw.mpr ⟨_,z,rfl⟩)
   rw [if_neg hsx,hszp (G.parts s q z)]
   exact G.szr s q z
  ·rw [z,zq,if_pos rfl,hszp hr]
   exact ⟨rfl,hs⟩
 ·intro p hp
  rw [y3] at hp
  have h1:p≠x:=fun e=>hp (zd _ (by simp [e]))
  rw [if_neg h1]
  exact G.sz1 p fun z=>hp (zk _ z)
 ·intro s q h p hp
  rcases hmem h with z | ⟨z,zq⟩
  ·exact i2 s q z p hp
  ·rw [zq] at hp
   have h1:p≠x:=fun e=>hx (e ▸ hr p hp)
   rw [if_neg h1,if_pos z]
   exact G.ix p (hr p hp)
 ·simp; exact r4 ‹_›
 ·rcases hsh with ⟨e,_⟩ | ⟨e,_⟩ <;> rw [e] <;> simp <;> (clear G hx hr hl hs hxr hxm hxs i1 i2 pl lz lm hmem hszp sub e; omega)
 ·simp; (clear G hx hr hl hs hsh hxr hxm hxs i1 i2 lm ls hmem hszp sub; omega)
end
end K12
namespace K21
open Vi K12
open PySem (Str)
theorem cut_map (l:List Int) (lo hi:Option Int):cutD (l.map D.int) lo hi=(cutD l lo hi).map D.int:=by
 unfold cutD
 rw [z7,← List.map_drop,← List.map_take]
theorem slD_map (l:List Int) (lo hi:Option Int):slD (.lst (l.map D.int)) (some lo) (some hi)=.ok (.lst ((cutD l lo hi).map D.int),.sto []):=by
 rw [slD_1,if_pos (aX _),cut_map]
theorem gx {M:Tab} {a lo hi:E} {ρ:Env} {l:List Int} {x y:D} {p q:Option Int} {k k1 k2:Kd} (h1:runE M a ρ=.ok (.lst (l.map D.int),k)) (h2:runE M lo ρ=.ok (x,k1)) (h3:runE M hi ρ=.ok (y,k2)) (e1:optI lo x=some p) (e2:optI hi y=some q):runE M (.sl a lo hi) ρ=.ok (.lst ((cutD l p q).map D.int),.sto []):=by
 rw [rE_sl,h1]
 simp only [R.ok_bind,h2,h3,e1,e2,slD_map]
theorem run_list {M:Tab} {a:E} {ρ:Env} {l:List Int} {k:Kd} (h:runE M a ρ=.ok (.lst (l.map D.int),k)):runE M (.bi .list [a]) ρ=.ok (.lst (l.map D.int),.sto []):=by
 rw [aK h (z:=.lst (l.map D.int)) (by rw [gZ,if_pos (aX _)]),jm (aX _)]
theorem i9 {M:Tab} {a b:E} {ρ:Env} {l r:List Int} {k k':Kd} (h1:runE M a ρ=.ok (.lst (l.map D.int),k)) (h2:runE M b ρ=.ok (.lst (r.map D.int),k')) (hc:l.length+r.length≤1000000):runE M (.bin .add a b) ρ=.ok (.lst ((l++r).map D.int),.sto []):=by
 rw [ax h1 h2 (z:=.lst ((l++r).map D.int)) (by rw [opD_7,if_pos (by rw [z7,z7]; exact hc),y3]),jm (aX _)]
theorem run_eqI {M:Tab} {a b:E} {ρ:Env} {l r:List Int} {k k':Kd} (h1:runE M a ρ=.ok (.lst (l.map D.int),k)) (h2:runE M b ρ=.ok (.lst (r.map D.int),k')):runE M (.cmp .eq a b) ρ=.ok (.bl (decide (l=r)),.sto []):=aV h1 h2 (by rw [iE,eqD_il])
theorem run_neI {M:Tab} {a b:E} {ρ:Env} {l:List Int} {k k':Kd} (h1:runE M a ρ=.ok (.lst (l.map D.int),k)) (h2:runE M b ρ=.ok (.lst (l.map D.int),k')):runE M (.cmp .ne a b) ρ=.ok (.bl false,.sto []):=aV h1 h2 (by rw [cmpD_2,eqD_il,decide_eq_true rfl]; rfl)
theorem run_pow {M:Tab} {ρ:Env} (n:Nat) (hn:n≤1000):runE M (.bin .pow (.int 10) (.int (n:Int))) ρ=.ok (.int (10 ^ n),.sto []) :=
 ax (x:=.int 10) (y:=.int (n:Int)) (k:=.sto []) (k':=.sto []) (by rw [ie]) (by rw [ie]) (z:=.int (10 ^ n)) (by rw [opD_6,if_pos ⟨y8 _,sq (uz.mpr hn) (by decide),by decide⟩,xq])
theorem cut_one (ns:List Int) (k:Nat):cutD ns (some (k:Int)) (some ((k:Int)+1))=if k < ns.length then [ns.getD k 0] else []:=by
 unfold cutD cutAt
 simp only
 rw [if_neg (u9.mpr (y8 _)),if_neg (show ¬ (k:Int)+1 < 0 from u9.mpr (y8 (k+1))),show ((k:Int)+1).toNat=k+1 from rfl,xq]
 by_cases h:k < ns.length
 ·rw [if_pos h,vp h,vp (xn h),show k.succ - k=1 from tu k 1,vq h,qd,pb,wl,z9 h]
  rfl
 ·rw [if_neg h,ri (we (t9.mp h)),ri (t9.mp h),Nat.sub_self,pb]
theorem nth_eq (ns:List Int) (k:Nat):r_nth [.lst (ns.map D.int),.int k]=.ok (.int (ns.getD k 0)):=by
 have hc:=cut_one ns k
 have hl:(cutD ns (some (k:Int)) (some ((k:Int)+1))).length≤1:=by rw [hc]; split; exact zf 1; exact xc 1
 have s1:runS t0 (jD.body.getD 0 .pass) [some (.lst (ns.map D.int),false),some (.int k,false),none]=.nx [some (.lst (ns.map D.int),false),some (.int k,false),some (.lst ((cutD ns (some (k:Int)) (some ((k:Int)+1))++[0]).map D.int),true)] :=
  aA (i9 (gx (l:=ns) (k:=.old) (x:=.int k) (y:=.int ((k:Int)+1)) (k1:=.sto []) (k2:=.sto []) rfl rfl rfl rfl rfl) (r:=[0]) (k':=.sto []) rfl (z5 (ux hl 1) (by decide))) rfl
 refine dA rfl (by decide) ((ae s1).trans ?_)
 rw [hc]
 by_cases h:k < ns.length
 ·rw [if_pos h]; exact dL (is:=[]) rfl
 ·rw [if_neg h,wl,List.getElem?_eq_none (t9.mp h)]; exact dL (is:=[]) rfl
theorem is_int_eq (i:Int):eU [.int i]=.ok (.bl true):=rfl
theorem mul_in {a b:Int} (h1 : -1000 < a) (h2:a < 10000000):opD .mul (.int a) (.int b)=.ok (.int (a * b)):=by
 rw [opD_3,if_pos (.inl ⟨vf (by decide) h1,vf h2 (by decide)⟩)]
theorem mix_eq (c k:Int) (h1:0≤k) (h2:k < 1000):∃ m,r_mix [.int c,.int k,.int 48271]=.ok (.int m):=by
 have a1:runE K12.t0 (.bin .mul (.var 0) (.var 2)) [some (.int c,false),some (.int k,false),some (.int 48271,false)]=.ok (.int (c * 48271),.sto []):=ax rfl rfl (by rw [opD_3,if_pos (.inr ⟨by decide,by decide⟩)])
 have a2:runE K12.t0 (.bin .mul (.var 1) (.int 2654435)) [some (.int c,false),some (.int k,false),some (.int 48271,false)]=.ok (.int (k * 2654435),.sto []):=ax rfl rfl (mul_in (wm (by decide) h1) (vf h2 (by decide)))
 exact ⟨(c * 48271+k * 2654435+40503) % 2147483629,dA rfl (by decide) (dL (is:=[]) (ax (ax (ax a1 a2 (z:=.int (c * 48271+k * 2654435)) rfl) rfl rfl) rfl rfl))⟩
noncomputable def sgn (h k:Int):Int:=if (k+h) % 3=0 then k+h / 3 % 5 else if (k+h) % 3=1 then 1000000000000000000000000000000000000000000000000000000000000 - 1 - 3 * k else (k+1) * 10000000000000000000000000000000000000000+h / 15 % 1000000000000000000000000000000
theorem sign_eq (h k:Int) (h1:0≤k) (h2:k < 1000):r_sign [.int k,.int h]=.ok (.int (sgn h k)):=by
 let ρ:Env:=[some (.int k,false),some (.int h,false),some (.int ((k+h) % 3),true)]
 have pw:∀ n:Nat,n≤1000→runE K12.t0 (.bin .pow (.int 10) (.int (n:Int))) ρ=.ok (.int (10 ^ n),.sto []):=fun n hn=>ax (x:=.int 10) (y:=.int (n:Int)) rfl rfl (by rw [opD_6,if_pos ⟨y8 _,sq (uz.mpr hn) (by decide),by decide⟩,xq])
 have s1:runS K12.t0 (.set 2 (.bin .mod (.bin .add (.var 0) (.var 1)) (.int 3))) [some (.int k,false),some (.int h,false),none]=.nx ρ:=aA (k:=.sto []) (ax (k:=.sto []) (k':=.sto []) rfl rfl rfl) rfl
 have c1:runE K12.t0 (.cmp .eq (.var 2) (.int 0)) ρ=.ok (.bl ((k+h) % 3 == 0),.sto []):=rfl
 have c2:runE K12.t0 (.cmp .eq (.var 2) (.int 1)) ρ=.ok (.bl ((k+h) % 3 == 1),.sto []):=rfl
 refine dA rfl (by decide) ((ae s1).trans ?_)
 unfold sgn
 by_cases e0:(k+h) % 3=0
 ·rw [if_pos e0]
  rw [e0] at c1
  exact iT ((bu c1).trans rfl)
 ·rw [if_neg e0]
  rw [show ((k+h) % 3 == 0)=false from beq_eq_false_iff_ne.mpr e0] at c1
  refine (ae ((aR c1).trans bx)).trans ?_
  by_cases e1:(k+h) % 3=1
  ·rw [if_pos e1]
   rw [e1] at c2
   exact iT ((bu c2).trans (dL (is:=[]) (ax (ax (pw 60 (by decide)) rfl rfl) (ax (x:=.int 3) (y:=.int k) rfl rfl (mul_in (by decide) (by decide))) rfl)))
  ·rw [if_neg e1]
   rw [show ((k+h) % 3 == 1)=false from beq_eq_false_iff_ne.mpr e1] at c2
   refine (ae ((aR c2).trans bx)).trans (dL (is:=[]) ?_)
   refine ax (ax (x:=.int (k+1)) rfl (pw 40 (by decide)) (mul_in (wm (by decide) (oe h1 1)) (wm (Int.add_lt_add_right h2 1) (by decide)))) (ax (x:=.int (h / 15)) rfl (pw 30 (by decide)) (z:=.int (h / 15 % 10 ^ 30)) (by rw [opD_5,if_pos (by decide)])) rfl
theorem sgn_cls (h:Int) {k:Int} (h1:0≤k) (h2:k < 1000):((k+h) % 3=0∧sgn h k=k+h / 3 % 5∧sgn h k < 10 ^ 6)∨((k+h) % 3=1∧sgn h k=1000000000000000000000000000000000000000000000000000000000000 - 1 - 3 * k∧10 ^ 50 < sgn h k)∨(sgn h k=(k+1) * 10000000000000000000000000000000000000000+h / 15 % 1000000000000000000000000000000∧10 ^ 6 < sgn h k∧sgn h k < 10 ^ 50):=by
 unfold sgn
 by_cases e0:(k+h) % 3=0
 ·rw [if_pos e0]
  exact .inl ⟨e0,rfl,vf (Int.add_lt_add h2 (vz (h / 3) (show (0:Int) < 5 by decide))) (by decide)⟩
 ·rw [if_neg e0]
  by_cases e1:(k+h) % 3=1
  ·rw [if_pos e1]
   exact .inr (.inl ⟨e1,rfl,Int.lt_sub_right_of_add_lt (wm (Int.add_lt_add_left (Int.mul_lt_mul_of_pos_left h2 (show (0:Int) < 3 by decide)) _) (by decide))⟩)
  ·rw [if_neg e1]
   have q1:=ua (h / 15) (show (1000000000000000000000000000000:Int)≠0 by decide)
   have q2:=vz (h / 15) (show (0:Int) < 1000000000000000000000000000000 by decide)
   have m1:1 * 10000000000000000000000000000000000000000≤(k+1) * 10000000000000000000000000000000000000000:=Int.mul_le_mul_of_nonneg_right (oe h1 1) (by decide)
   have m2:(k+1) * 10000000000000000000000000000000000000000≤1000 * 10000000000000000000000000000000000000000:=Int.mul_le_mul_of_nonneg_right (Int.add_one_le_of_lt h2) (by decide)
   exact .inr (.inr ⟨rfl,wm (by decide) (Int.add_le_add m1 q1),wm (Int.add_lt_add_of_le_of_lt m2 q2) (by decide)⟩)
theorem sgn_inj {h j k:Int} (h1:0≤j) (h2:j < 1000) (h3:0≤k) (h4:k < 1000) (e:sgn h j=sgn h k):j=k:=by
 rcases sgn_cls h h1 h2 with ⟨a,b,c⟩ | ⟨a,b,c⟩ | ⟨b,c,d⟩ <;> rcases sgn_cls h h3 h4 with ⟨a',b',c'⟩ | ⟨a',b',c'⟩ | ⟨b',c',d'⟩
 ·exact (Int.add_left_inj _).mp (b.symm.trans (e.trans b'))
 ·rw [e] at c; exact absurd (vf c' c) (by decide)
 ·rw [e] at c; exact absurd (vf c' c) (by decide)
 ·rw [e] at c; exact absurd (vf c c') (by decide)
 ·have:=b.symm.trans (e.trans b'); (clear a b c a' b' c' e h1 h2 h3 h4; omega)
 ·rw [e] at c; exact absurd (vf c d') (by decide)
 ·rw [e] at c; exact absurd (vf c c') (by decide)
 ·rw [e] at d; exact absurd (vf c' d) (by decide)
 ·exact (Int.add_left_inj _).mp (Int.eq_of_mul_eq_mul_right (by decide) ((Int.add_left_inj _).mp (b.symm.trans (e.trans b'))))
noncomputable def nl (is:List Nat):List D:=is.map fun (i:Nat)=>D.int (i:Int)
theorem row_eq (m:Int) (k:Nat):∃ is:List Nat,r_row [.int m,.int k]=.ok (.lst (nl is))∧(∀ i∈is,i < k)∧is.length≤2:=by
 let ρ:O→Env:=fun v=>[some (.int m,false),some (.int k,false),v]
 have a1:runE K12.t0 (.cmp .eq (.var 1) (.int 0)) (ρ none)=.ok (.bl ((k:Int) == 0),.sto []):=rfl
 have a2:runE K12.t0 (.cmp .lt (.bin .mod (.var 0) (.int 5)) (.int 2)) (ρ none)=.ok (.bl (decide (m % 5 < 2)),.sto []):=rfl
 have go:∀ {b:Bool} {r:D},runE K12.t0 (.or (.cmp .eq (.var 1) (.int 0)) (.cmp .lt (.bin .mod (.var 0) (.int 5)) (.int 2))) (ρ none)=.ok (.bl b,.sto [])→(b=true→r=.lst [])→(b=false→al K12.t0 (gS.body.drop 1) (ρ none)=.rt r)→r_row [.int m,.int k]=.ok r:=fun {b r} h h1 h2=>by
  refine dA rfl (by decide) ?_
  cases b with
  | true=>rw [h1 rfl]; exact iT ((bu h).trans rfl)
  | false=>exact (ae ((aR h).trans bx)).trans (h2 rfl)
 by_cases hk:k=0
 ·refine ⟨[],go (b:=true) (gd (k:=.sto []) (by rw [a1,hk]; rfl)) (fun _=>rfl) (fun h=>nomatch h),fun _ h=>(nomatch h),xc 2⟩
 ·have hk0:¬ (k:Int)=0:=fun z=>hk (qm z)
  have hk1:0 < (k:Int):=ve.mpr (qw hk)
  rw [show ((k:Int) == 0)=false from beq_eq_false_iff_ne.mpr hk0] at a1
  cases c1:decide (m % 5 < 2) with
  | true=>rw [c1] at a2; exact ⟨[],go ((cU a1).trans a2) (fun _=>rfl) (fun h=>nomatch h),fun _ h=>(nomatch h),xc 2⟩
  | false =>
   rw [c1] at a2
   have md:∀ a:Int,∃ i:Nat,a % (k:Int)=(i:Int)∧i < k:=fun a=>⟨(a % (k:Int)).toNat,(tm (ua a hk0)).symm,(Int.toNat_lt (ua a hk0)).mpr (vz a hk1)⟩
   obtain ⟨i1,e1,l1⟩:=md (m / 5)
   obtain ⟨i3,e3,l3⟩:=md (m / 70)
   have s2:runS K12.t0 (.set 2 (.bin .mod (.bin .fdiv (.var 0) (.int 5)) (.var 1))) (ρ none)=.nx (ρ (some (.int i1,true))):=aA (k:=.sto []) (ax (x:=.int (m / 5)) (y:=.int k) (k:=.sto []) (k':=.sto []) rfl rfl (z:=.int i1) (by rw [opD_5,if_pos hk1,e1])) rfl
   have s3:∃ v:Nat,v < k∧runS K12.t0 (gS.body.getD 2 .pass) (ρ (some (.int i1,true)))=.nx (ρ (some (.int v,true))):=by
    have c2:runE K12.t0 (.cmp .eq (.bin .mod (.bin .fdiv (.var 0) (.int 35)) (.int 2)) (.int 1)) (ρ (some (.int i1,true)))=.ok (.bl (m / 35 % 2 == 1),.sto []):=rfl
    cases h:(m / 35 % 2 == 1) with
    | false=>rw [h] at c2; exact ⟨i1,l1,(aR c2).trans bx⟩
    | true =>
     rw [h] at c2
     refine ⟨k - 1,Nat.sub_lt (qw hk) (by decide),(bu c2).trans (av (aA (k:=.sto []) (ax (x:=.int k) (y:=.int 1) (k:=.sto []) (k':=.sto []) rfl rfl (z:=.int ((k - 1:Nat):Int)) ?_) rfl))⟩
     rw [opD_2,Int.natCast_sub (qw hk)]
     rfl
   obtain ⟨v,lv,s3⟩:=s3
   have c4:runE K12.t0 (.cmp .eq (.bin .mod (.var 0) (.int 5)) (.int 2)) (ρ (some (.int v,true)))=.ok (.bl (m % 5 == 2),.sto []):=rfl
   cases h:(m % 5 == 2) with
   | true =>
    rw [h] at c4
    exact ⟨[v],go ((cU a1).trans a2) (fun h=>nomatch h) fun _=>(ae s2).trans ((ae s3).trans (iT ((bu c4).trans rfl))),fun i hi=>by rw [ye.mp hi]; exact lv,rf 1⟩
   | false =>
    rw [h] at c4
    refine ⟨[v,i3],go ((cU a1).trans a2) (fun h=>nomatch h) fun _=>(ae s2).trans ((ae s3).trans ((ae ((aR c4).trans bx)).trans (dL (is:=[]) ?_))),fun i hi=>(y6.mp hi).elim (fun z=>z ▸ lv) fun z=>by rw [ye.mp z]; exact l3,zf 2⟩
    have q:=ak (M:=K12.t0) (show runE K12.t0 (.var 2) (ρ (some (.int v,true)))=.ok (.int v,.sto []) from rfl) (ak (ax (o:=.mod) (a:=.bin .fdiv (.var 0) (.int 70)) (b:=.var 1) (x:=.int (m / 70)) (y:=.int k) (k:=.sto []) (k':=.sto []) (ρ:=ρ (some (.int v,true))) rfl rfl (z:=.int i3) (by rw [opD_5,if_pos hk1,e3])) aJ)
    rw [rE_lst,q]
    rfl
end K21
namespace K21
open Vi K12
open PySem (Str)
theorem forL_enum {f:Env→D→Out} (I:Nat→Env→Prop):∀ (cells:List Int) (j:Nat) (ρ:Env),I j ρ→(∀ (i:Nat) (c:Int) ρ,i < j+cells.length→I i ρ→∃ ρ',f ρ (.tup [.int i,.int c])=.nx ρ'∧I (i+1) ρ') →
  ∃ ρ',forL f (fY j (cells.map D.int)) ρ=.nx ρ'∧I (j+cells.length) ρ':=by
 intro x_0
 induction x_0 with
 | nil =>
  intro j ρ h0 _
  exact ⟨ρ,rfl,h0⟩
 | cons c r ih_ =>
  intro j ρ h0 step
  obtain ⟨ρ1,e1,h1⟩:=step j c ρ (by simp) h0
  obtain ⟨ρ',e2,h2⟩:=ih_ (j+1) ρ1 h1 fun i c ρ hi=>step i c ρ (by rw [yx,← ql,sk]; exact hi)
  refine ⟨ρ', ?_,by rw [yx,show j+(r.length+1)=j+1+r.length from sk j r.length 1]; exact h2⟩
  rw [zc]
  show forL f (.tup [.int j,.int c]::fY ((j:Int)+1) (r.map D.int)) ρ=_
  simp only [forL,e1]
  exact e2
set_option tactic.hygienic true in
theorem dO {ρ ρl ρ':Env} {ws:List Nat} {j:Nat} {d:D} (h:ρ'[j]?=some (some (d,true))) (hw:ws.contains j=false) (hl:∀ x,ρl[j]?≠some (some (x,false))):(rest ρ ρl ρ' ws)[j]?=some (some (d,true)):=by
 unfold rest
 rw [rg,h,w8,if_neg (by rw [hw]; exact y9)]
 split
 ·rename_i x hx; exact absurd hx (hl x)
 ·rfl
theorem turn_ix {M:Tab} {ρ:Env} {t s:Nat} {l:List D} {i:Nat} {d:D} {o:Bool} (h:ρ[s]?=some (some (.lst l,o))) (hts:t≠s) (ht:t < ρ.length) (hd:l[i]?=some d) (him:d.imm=true) :
  dq ρ [t] true (fun ρ1=>tru1 (runE M (.bl true) ρ1)) (fun ρ1=>runE M (.ix (.var s) (.var t)) ρ1) (.int i)=.ok (some (d,.sto [])):=by
 have hl:t < (inComp ρ [t]).length:=by simpa [inComp] using ht
 have hb:cn (inComp ρ [t]) [t] true (.int i) .old=some ((inComp ρ [t]).set t (some (.int i,true))):=by
  show aN _ t _ (.sto [])=_
  unfold aN
  rw [if_pos hl]
  rfl
 have hs:((inComp ρ [t]).set t (some (.int i,true)))[s]?=some (some (.lst l,false)):=by
  rw [yu hts]
  show ((ρ.map _).set t none)[s]?=_
  rw [yu hts,yn,h]
  rfl
 have hx:((inComp ρ [t]).set t (some (.int i,true)))[t]?=some (some (.int i,true)):=by rw [vn hl]
 have hi:i < l.length:=(yi.mp hd).1
 have g1:getV ((inComp ρ [t]).set t (some (.int i,true))) s=.ok (.lst l,.old):=by unfold getV; rw [hs]; rfl
 have g2:getV ((inComp ρ [t]).set t (some (.int i,true))) t=.ok (.int i,.sto []):=by unfold getV; rw [hx]; rfl
 have e:ixD (.lst l) (.int i)=.ok d:=by
  simp only [ixD,atD]
  rw [if_pos (by exact y8 _),if_pos (by exact ve.mpr ‹_›)]
  simp only [xq,hd]
 have r:runE M (.ix (.var s) (.var t)) ((inComp ρ [t]).set t (some (.int i,true)))=.ok (d,.sto []):=by
  rw [rE_ix,bF,g1]
  simp only [R.ok_bind]
  rw [bF,g2]
  simp only [R.ok_bind,e,R.pure_eq,dW,him,if_true]
 exact cD hb (by rw [fT]; rfl) r
theorem comp_ix {M:Tab} {ρ:Env} {t s v:Nat} {l:List D} {is:List Nat} {o:Bool} (hv:ρ[v]?=some (some (.lst (nl is),true))) (h:ρ[s]?=some (some (.lst l,o))) (hts:t≠s) (ht:t < ρ.length) (hi:∀ i∈is,i < l.length) (him:immL l=true) (hl:is.length≤2) :
  runE M (.comp (.ix (.var s) (.var t)) [t] true .each [(.var v)] (.bl true)) ρ=.ok (.lst (is.map fun i=>l.getD i .non),.sto []):=by
 have hI:runI M .each [.var v] ρ=.ok (nl is,.sto [v]):=by
  rw [rI_1,bF]
  have g:getV ρ v=.ok (.lst (nl is),.sto [v]):=by unfold getV; rw [hv]; rfl
  rw [g]
  simp only [R.ok_bind,eV,dS,gl,R.pure_eq]
 refine bV (b:=true) hI (by unfold nl; rw [z7]; exact z5 ‹_› (by decide)) (bU (fun i:Nat=>D.int (i:Int)) (fun i=>l.getD i .non) is fun i hi'=>?_)
 have hlt:=hi i hi'
 have e:l.getD i .non=l[i]:=by rw [wl,z9 hlt]; rfl
 exact turn_ix h hts ht (by rw [e]; exact z9 hlt) (eB.mp him _ (by rw [e]; exact ro hlt))
noncomputable abbrev fZ:List S:=match cB.body.getD 5 .pass with
 | .for _ _ _ _ b=>b
 | _=>[]
noncomputable abbrev envP (cells:List Int) (h:Int) (pool:List Int) (marks:List (Int × Int)) (rows:List (Int × List Int)) (shuts zs:List Int) (a b c d e f g i j:O):Vi.Env :=
 [some (.lst (cells.map D.int),false),some (.int h,false),some (.lst (pool.map D.int),true),some (.dK (marks.map da),true),some (.dK (rows.map rowK),true),some (.lst (shuts.map D.int),true),some (.lst (zs.map D.int),true),a,b,c,d,e,f,g,i,j]
theorem put_row {rows:List (Int × List Int)} {x:Int} (hx:x∉rows.map (·.1)) (r:List Int):putD (rows.map rowK) (zu x:Key) (.tup (r.map D.int))=(rows++[(x,r)]).map rowK:=by
 rw [eh _ (dH.mpr fun z=>hx ?_),y3]
 ·rfl
 ·rw [ym] at z
  obtain ⟨p,hp,e⟩:=yw.mp z
  exact yw.mpr ⟨p,hp,u4 e⟩
theorem put_mark {marks:List (Int × Int)} {x:Int} (hx:x∉marks.map (·.1)) (r:Int):putD (marks.map da) (zu x:Key) (.int r)=(marks++[(x,r)]).map da:=by
 rw [eh _ (dH.mpr fun z=>hx ?_),y3]
 ·rfl
 ·rw [ym] at z
  obtain ⟨p,hp,e⟩:=yw.mp z
  exact yw.mpr ⟨p,hp,u4 e⟩
theorem tupKs_rows:∀ rs:List (List Int),tupKs (rs.map fun r=>.tup (r.map D.int))=some (rs.map fun r=>r.map zu):=by
 intro x_0
 induction x_0 with
 | nil =>
  exact rfl
 | cons r rs ih_ =>
  rw [zc,zc]
  simp only [tupKs,jk,ih_]
noncomputable def gr (rows:List (Int × List Int)) (shuts:List Int):List (List Int):=(rows.filter fun r=>!decide (r.1∈shuts)).map (·.2)
theorem mem_il (x:Int) (l:List Int):memD (.int x) (.lst (l.map D.int))=some (decide (x∈l)):=by
 show (if (cA (.int x)).isSome=true then memL (.int x) (l.map D.int) else memT (.int x) (l.map D.int))=_
 rw [if_pos (show (cA (.int x)).isSome=true from rfl),memL_il,any_eq_mem]
end K21
namespace K21
open Vi K12
open PySem (Str)
theorem sum_at {pool:List Int} {sz:Int→Int} {is:List Nat} (h:∀ i∈is,i < pool.length):(is.map fun i=>((pool.map sz).map D.int).getD i .non)=((is.map fun i=>pool.getD i 0).map sz).map D.int:=by
 rw [ym,ym,ym]
 refine qf fun i hi=>?_
 have hl:=h i hi
 simp [wl,z9 hl]
theorem row_at {pool:List Int} {is:List Nat} (h:∀ i∈is,i < pool.length) (x:Int):(is.map fun i=>((pool++[x]).map D.int).getD i .non)=(is.map fun i=>pool.getD i 0).map D.int:=by
 rw [ym]
 refine qf fun i hi=>?_
 have hl:=h i hi
 simp only [wl,yn,w6 hl,z9 hl,w8,uh,Function.comp]
theorem nl_nil (is:List Nat):eqD (.lst (nl is)) (.lst [])=some is.isEmpty:=by
 show eqLs (eqN 7) (nl is) []=_
 cases is <;> rfl
theorem cV {M:Tab} {i:Nat} {e:E} {ρ ρ':Env} {l:List Int} {x:Int} (h:runE M e ρ=.ok (.int x,.sto [])) (hl:ρ[i]?=some (some (.lst (l.map D.int),true))) (hc:l.length < 1000000) (e':ρ.set i (some (.lst ((l++[x]).map D.int),true))=ρ'):runS M (.app i e) ρ=.nx ρ':=by
 rw [gz h hl (by rw [z7]; exact hc),← e',y3]
 rfl
theorem fh {rows:List (Int × List Int)} (hn:(rows.map (·.1)).Nodup) {s:Int} {r:List Int} (h:(s,r)∈rows):valD (rows.map rowK) (zu s:Key)=some (.tup (r.map D.int)):=by
 have:=gq (fun p:Int × List Int=>(zu p.1:Key)) (fun p=>D.tup (p.2.map D.int)) (l:=rows) (x:=(s,r)) (by rw [show rows.map (fun p:Int × List Int=>(zu p.1:Key))=(rows.map (·.1)).map zu by rw [ym]; rfl]; exact df hn) h
 exact this
theorem comp_taken {M:Tab} {ρ:Env} {rows:List (Int × List Int)} {shuts:List Int} (hn:(rows.map (·.1)).Nodup) (hl:rows.length≤1000) (h4:ρ[4]?=some (some (.dK (rows.map rowK),true))) (h5:ρ[5]?=some (some (.lst (shuts.map D.int),true))) (h15:15 < ρ.length) :
  runE M (.comp (.dix (.var 4) (.var 15)) [15] true .keys [(.var 4)] (.cmp .nmem (.var 15) (.var 5))) ρ=.ok (.lst ((gr rows shuts).map fun r=>.tup (r.map D.int)),.sto []):=by
 have g:getV ρ 4=.ok (.dK (rows.map rowK),.sto [4]):=by unfold getV; rw [h4]; rfl
 have hI:runI M .keys [.var 4] ρ=.ok (rows.map fun r=>D.int r.1,.sto [4]):=by
  rw [rI_1,bF,g]
  simp only [R.ok_bind,eV,dS,gj,R.pure_eq,ym]
  rfl
 have hlen:15 < (inComp ρ [15]).length:=by simpa [inComp] using h15
 unfold gr
 rw [ym]
 refine bV (b:=true) hI (by rw [z7]; exact z5 ‹_› (by decide)) (fL (fun r:Int × List Int=>D.int r.1) (fun r=>.tup (r.2.map D.int)) (fun r=>!decide (r.1∈shuts)) rows fun p hp=>?_)
 have hb:cn (inComp ρ [15]) [15] true (.int p.1) .old=some ((inComp ρ [15]).set 15 (some (.int p.1,true))):=by
  show aN _ 15 _ (.sto [])=_
  unfold aN
  rw [if_pos hlen]
  rfl
 have at_:∀ {j:Nat} {d:D} {o:Bool},j≠15→ρ[j]?=some (some (d,o))→((inComp ρ [15]).set 15 (some (.int p.1,true)))[j]?=some (some (d,false)):=fun {j d o} hj e=>by
  rw [yu (wt hj)]
  show ((ρ.map _).set 15 none)[j]?=_
  rw [yu (wt hj),yn,e]
  rfl
 have v15:runE M (.var 15) ((inComp ρ [15]).set 15 (some (.int p.1,true)))=.ok (.int p.1,.sto []):=by rw [bF]; unfold getV; rw [vn hlen]; rfl
 have v5:runE M (.var 5) ((inComp ρ [15]).set 15 (some (.int p.1,true)))=.ok (.lst (shuts.map D.int),.old):=by rw [bF]; unfold getV; rw [at_ (by decide) h5]; rfl
 have v4:runE M (.var 4) ((inComp ρ [15]).set 15 (some (.int p.1,true)))=.ok (.dK (rows.map rowK),.old):=by rw [bF]; unfold getV; rw [at_ (by decide) h4]; rfl
 have c:=aV v15 v5 (t:=!decide (p.1∈shuts)) (by rw [cmpD_10,mem_il])
 have c':tru1 (runE M (.cmp .nmem (.var 15) (.var 5)) ((inComp ρ [15]).set 15 (some (.int p.1,true))))=.ok (!decide (p.1∈shuts)):=by rw [c]; rfl
 cases hp':(!decide (p.1∈shuts)) with
 | false =>
  rw [hp'] at c'
  rw [if_neg y9]
  exact turnC_f hb c'
 | true =>
  rw [hp'] at c'
  rw [if_pos rfl]
  refine cD hb c' ?_
  have e:=gy v4 v15 (d:=.tup (p.2.map D.int)) (by show some (valD (rows.map rowK) (zu p.1))=_; rw [fh hn hp])
  rw [e]
  unfold immK
  rw [if_pos (bA _)]
noncomputable abbrev envQ (cells:List Int) (h n c m x:Int) (is:List Nat) (q:Int) (pool:List Int) (marks:List (Int × Int)) (rows:List (Int × List Int)) (shuts Z:List Int) (k:O):Vi.Env :=
 envP cells h pool marks rows shuts Z (some (.int n,true)) (some (.int c,true)) (some (.int m,true)) (some (.int x,true)) (some (.lst (nl is),true)) (some (.int q,true)) none k none
theorem three {k:Int} (h1:0≤k) (h2:k < 3):k=0∨k=1∨k=2 :=
 (Int.lt_or_eq_of_le (o6 (b:=2) h2)).elim (fun h=>(Int.lt_or_eq_of_le (o6 (b:=1) h)).elim (fun h=>.inl (Int.le_antisymm (o6 (b:=0) h) h1)) fun h=>.inr (.inl h)) fun h=>.inr (.inr h)
theorem one_two {n:Nat} (h1:n≠0) (h2:n≤2):n=1∨n=2 :=
 (Nat.lt_or_eq_of_le h2).elim (fun h=>.inl (Nat.le_antisymm (wf h) (qw h1))) .inr
inductive PSt (cells:List Int) (h:Int) (pool:List Int) (ρ:Vi.Env):Prop
 | mk (marks:List (Int × Int)) (rows:List (Int × List Int)) (shuts:List Int) (sizes:List (Key × D)) (sz:Int→Int) (idx:Int→Nat) (a b m x i z k:O) (e:ρ=envP cells h pool marks rows shuts (pool.map sz) a b m x i z none k none) (G:Good pool marks rows shuts sizes sz idx)
theorem turn_P (cells:List Int) (h:Int) {pool:List Int} {marks:List (Int × Int)} {rows:List (Int × List Int)} {shuts:List Int} {sizes:List (Key × D)} {sz:Int→Int} {idx:Int→Nat} (G:Good pool marks rows shuts sizes sz idx) (hp:pool.length≤100) {x:Int} (ex:sgn h pool.length=x) (hx:x∉pool) (c:Int) (a b m0 x0 i0 z0 k0:O) :
  ∃ ρ',bC [7,8] false (fun ρ1=>al t7 fZ ρ1) (envP cells h pool marks rows shuts (pool.map sz) a b m0 x0 i0 z0 none k0 none) (.tup [.int pool.length,.int c])=.nx ρ'∧PSt cells h (pool++[x]) ρ':=by
 have hxr:x∉rows.map (·.1):=fun z=>hx (G.rp x z)
 have hxm:x∉marks.map (·.1):=fun z=>hx (G.mp x z)
 have l1:(pool.map D.int).length < 1000000:=by rw [z7]; exact zg ‹_› (by decide)
 have l2:((pool.map sz).map D.int).length < 1000000:=by rw [z7,z7]; exact zg ‹_› (by decide)
 have l3:(marks.map da).length < 1000000:=by rw [z7]; exact zg (z5 (yc _ _) (z5 G.lm hp)) (by decide)
 have l4:(rows.map rowK).length < 1000000:=by rw [z7]; exact zg (z5 (w9 _ _) (z5 G.lm hp)) (by decide)
 have l5:(shuts.map D.int).length < 1000000:=by rw [z7]; exact zg (z5 G.ls hp) (by decide)
 have hp1k:(pool.length:Int) < 1000:=(ve (m:=1000)).mpr (zg hp (by decide))
 refine zz fun P_ k_=>?_
 obtain ⟨m,hm⟩:=mix_eq c (pool.length:Int) (by exact y8 _) hp1k
 have hs:=sign_eq h (pool.length:Int) (by exact y8 _) hp1k
 rw [ex] at hs
 obtain ⟨is,hr,hi,hil⟩:=row_eq m pool.length
 refine k_ ?_
 have e0:bC [7,8] false (fun ρ1=>al t7 fZ ρ1) (envP cells h pool marks rows shuts (pool.map sz) a b m0 x0 i0 z0 none k0 none) (.tup [.int pool.length,.int c])=al t7 fZ (envP cells h pool marks rows shuts (pool.map sz) (some (.int pool.length,true)) (some (.int c,true)) m0 x0 i0 z0 none k0 none):=rfl
 rw [e0]
 generalize hn:(pool.length:Int)=n at *
 have s1:runS t7 (fZ.getD 0 .pass) (envP cells h pool marks rows shuts (pool.map sz) (some (.int n,true)) (some (.int c,true)) m0 x0 i0 z0 none k0 none)=.nx (envP cells h pool marks rows shuts (pool.map sz) (some (.int n,true)) (some (.int c,true)) (some (.int m,true)) x0 i0 z0 none k0 none) :=
  aA (aE (ds:=[.int c,.int n,.int 48271]) rfl hm) rfl
 have s2:runS t7 (fZ.getD 1 .pass) (envP cells h pool marks rows shuts (pool.map sz) (some (.int n,true)) (some (.int c,true)) (some (.int m,true)) x0 i0 z0 none k0 none)=.nx (envP cells h pool marks rows shuts (pool.map sz) (some (.int n,true)) (some (.int c,true)) (some (.int m,true)) (some (.int x,true)) i0 z0 none k0 none) :=
  aA (aE (ds:=[.int n,.int h]) rfl hs) rfl
 have s3:runS t7 (fZ.getD 2 .pass) (envP cells h pool marks rows shuts (pool.map sz) (some (.int n,true)) (some (.int c,true)) (some (.int m,true)) (some (.int x,true)) i0 z0 none k0 none)=.nx (envP cells h (pool++[x]) marks rows shuts (pool.map sz) (some (.int n,true)) (some (.int c,true)) (some (.int m,true)) (some (.int x,true)) i0 z0 none k0 none) :=
  cV rfl rfl (by exact zg ‹_› (by decide)) rfl
 have s4:runS t7 (fZ.getD 3 .pass) (envP cells h (pool++[x]) marks rows shuts (pool.map sz) (some (.int n,true)) (some (.int c,true)) (some (.int m,true)) (some (.int x,true)) i0 z0 none k0 none)=.nx (envP cells h (pool++[x]) marks rows shuts (pool.map sz) (some (.int n,true)) (some (.int c,true)) (some (.int m,true)) (some (.int x,true)) (some (.lst (nl is),true)) z0 none k0 none) :=
  aA (aE (ds:=[.int m,.int n]) rfl hr) rfl
 let r:List Int:=is.map fun i=>pool.getD i 0
 have hrp:∀ p∈r,p∈pool:=fun p hp'=>by
  obtain ⟨i,hi',e⟩:=yw.mp hp'
  have hl:=hi i hi'
  rw [← e,wl,z9 hl]
  exact ro hl
 have hrl:r.length=is.length:=z7 ..
 have s5:runS t7 (fZ.getD 4 .pass) (envP cells h (pool++[x]) marks rows shuts (pool.map sz) (some (.int n,true)) (some (.int c,true)) (some (.int m,true)) (some (.int x,true)) (some (.lst (nl is),true)) z0 none k0 none)=.nx (envQ cells h n c m x is (r.map sz).sum (pool++[x]) marks rows shuts (pool.map sz) k0):=by
  have c1:=comp_ix (M:=t7) (ρ:=envP cells h (pool++[x]) marks rows shuts (pool.map sz) (some (.int n,true)) (some (.int c,true)) (some (.int m,true)) (some (.int x,true)) (some (.lst (nl is),true)) z0 none k0 none) (t:=13) (s:=6) (v:=11) (is:=is) rfl rfl (by decide) (show 13 < 16 by decide) (fun i hi'=>by rw [z7,z7]; exact hi i hi') (aX _) hil
  rw [sum_at hi] at c1
  exact aA (aK c1 (z:=.int (r.map sz).sum) (by rw [biD_4,sum_il])) rfl
 have go:al t7 fZ (envP cells h pool marks rows shuts (pool.map sz) (some (.int n,true)) (some (.int c,true)) m0 x0 i0 z0 none k0 none)=al t7 [fZ.getD 5 .pass] (envQ cells h n c m x is (r.map sz).sum (pool++[x]) marks rows shuts (pool.map sz) k0) :=
  (ae s1).trans ((ae s2).trans ((ae s3).trans ((ae s4).trans (ae s5))))
 rw [go]
 clear go s1 s2 s3 s4 s5 e0 hm hs hr
 have hcond:runE t7 (.or (.cmp .eq (.var 11) (.lst [])) (.cmp .gt (.var 12) (.int 16))) (envQ cells h n c m x is (r.map sz).sum (pool++[x]) marks rows shuts (pool.map sz) k0)=.ok (.bl (is.isEmpty || decide (16 < (r.map sz).sum)),.sto []):=by
  have c1:runE t7 (.cmp .eq (.var 11) (.lst [])) (envQ cells h n c m x is (r.map sz).sum (pool++[x]) marks rows shuts (pool.map sz) k0)=.ok (.bl is.isEmpty,.sto []):=aV (x:=.lst (nl is)) (y:=.lst []) rfl rfl (by rw [iE,nl_nil])
  cases he:is.isEmpty with
  | true=>rw [he] at c1; rw [gd c1]; rfl
  | false=>rw [he] at c1; rw [cU c1]; rfl
 cases hb:(is.isEmpty || decide (16 < (r.map sz).sum)) with
 | true =>
  rw [hb] at hcond
  have szx:sz x=1:=G.sz1 x hxr
  have hz:(pool++[x]).map sz=pool.map sz++[1]:=by rw [y3,so,szx]
  have s6:runS t7 (.app 6 (.int 1)) (envQ cells h n c m x is (r.map sz).sum (pool++[x]) marks rows shuts (pool.map sz) k0)=.nx (envQ cells h n c m x is (r.map sz).sum (pool++[x]) marks rows shuts ((pool++[x]).map sz) k0) :=
   cV rfl rfl (by rw [z7]; exact zg ‹_› (by decide)) (by rw [← hz]; rfl)
  have c7:runE t7 (.cmp .gt (.bin .mod (.bin .fdiv (.var 9) (.int 211)) (.int 3)) (.int 0)) (envQ cells h n c m x is (r.map sz).sum (pool++[x]) marks rows shuts ((pool++[x]).map sz) k0)=.ok (.bl (decide (0 < m / 211 % 3)),.sto []):=rfl
  cases h7:decide (0 < m / 211 % 3) with
  | false =>
   rw [h7] at c7
   exact ⟨_,av ((bu hcond).trans ((ae s6).trans (av ((aR c7).trans bx)))),marks,rows,shuts,_,sz,_,_,_,_,_,_,_,_,rfl,G.bare hx (.inl rfl)⟩
  | true =>
   rw [h7] at c7
   have key:∃ rk,runE t7 (.ix (.lst [(.bin .add (.int 1) (.bin .mod (.bin .fdiv (.var 9) (.int 633)) (.int 3))),(.bin .add (.int 1) (.bin .mod (.var 8) (.int 999))),(.bin .sub (.int 999) (.bin .mod (.var 8) (.int 2)))]) (.bin .mod (.bin .fdiv (.var 9) (.int 1899)) (.int 3))) (envQ cells h n c m x is (r.map sz).sum (pool++[x]) marks rows shuts ((pool++[x]).map sz) k0)=.ok (.int rk,.sto []):=by
    have q1:0≤m / 1899 % 3:=ua _ (by decide)
    have q2:m / 1899 % 3 < 3:=vz _ (by decide)
    have:m / 1899 % 3=0∨m / 1899 % 3=1∨m / 1899 % 3=2:=three q1 q2
    have e:runE t7 (.ix (.lst [(.bin .add (.int 1) (.bin .mod (.bin .fdiv (.var 9) (.int 633)) (.int 3))),(.bin .add (.int 1) (.bin .mod (.var 8) (.int 999))),(.bin .sub (.int 999) (.bin .mod (.var 8) (.int 2)))]) (.bin .mod (.bin .fdiv (.var 9) (.int 1899)) (.int 3))) (envQ cells h n c m x is (r.map sz).sum (pool++[x]) marks rows shuts ((pool++[x]).map sz) k0)=(do let d ← ixD (.lst [.int (1+m / 633 % 3),.int (1+c % 999),.int (999 - c % 2)]) (.int (m / 1899 % 3)); pure (d,dW d (.sto []))):=rfl
    rw [e]
    rcases this with z | z | z <;> rw [z] <;> exact ⟨_,rfl⟩
   obtain ⟨rk,hk⟩:=key
   have s7:runS t7 (.put 3 (.var 10) (.ix (.lst [(.bin .add (.int 1) (.bin .mod (.bin .fdiv (.var 9) (.int 633)) (.int 3))),(.bin .add (.int 1) (.bin .mod (.var 8) (.int 999))),(.bin .sub (.int 999) (.bin .mod (.var 8) (.int 2)))]) (.bin .mod (.bin .fdiv (.var 9) (.int 1899)) (.int 3)))) (envQ cells h n c m x is (r.map sz).sum (pool++[x]) marks rows shuts ((pool++[x]).map sz) k0)=.nx (envQ cells h n c m x is (r.map sz).sum (pool++[x]) (marks++[(x,rk)]) rows shuts ((pool++[x]).map sz) k0) :=
    fj hk rfl rfl rfl (d':=.dK ((marks++[(x,rk)]).map da)) (by rw [← put_mark hxm rk]; simp only [gU,cA]; rw [if_pos l3])
   exact ⟨_,av ((bu hcond).trans ((ae s6).trans (av ((bu c7).trans (av s7))))),marks++[(x,rk)],rows,shuts,_,sz,_,_,_,_,_,_,_,_,rfl,G.bare hx (.inr ⟨rk,rfl⟩)⟩
 | false =>
  rw [hb] at hcond
  have hb1:is.isEmpty=false:=by cases z:is.isEmpty with | true=>rw [z] at hb; injection hb | false=>rfl
  have hb2:(r.map sz).sum≤16:=by
   rw [hb1,Bool.false_or] at hb
   exact u9.mp (of_decide_eq_false hb)
  have hne:is.length≠0:=fun z=>by rw [List.length_eq_zero_iff.mp z] at hb1; injection hb1
  have hlr:r.length=1∨r.length=2:=by rw [hrl]; exact one_two hne hil
  have hz:(pool++[x]).map (fun p=>if p=x then (r.map sz).sum else sz p)=pool.map sz++[(r.map sz).sum]:=by
   rw [y3,so,if_pos rfl]
   congr 1
   refine qf fun p hp'=>?_
   rw [if_neg fun (e:p=x)=>hx (by rw [← e]; exact hp')]
  have hnr:(rows.map (·.1)).Nodup:=(x4.mp G.nodup).2.1
  have s6:runS t7 (.app 6 (.var 12)) (envQ cells h n c m x is (r.map sz).sum (pool++[x]) marks rows shuts (pool.map sz) k0)=.nx (envQ cells h n c m x is (r.map sz).sum (pool++[x]) marks rows shuts ((pool++[x]).map fun p=>if p=x then (r.map sz).sum else sz p) k0) :=
   cV rfl rfl (by rw [z7]; exact zg ‹_› (by decide)) (by rw [← hz]; rfl)
  generalize hZ:((pool++[x]).map fun p=>if p=x then (r.map sz).sum else sz p)=Z at *
  have s7:runS t7 (.set 14 (.comp (.dix (.var 4) (.var 15)) [15] true .keys [(.var 4)] (.cmp .nmem (.var 15) (.var 5)))) (envQ cells h n c m x is (r.map sz).sum (pool++[x]) marks rows shuts Z k0)=.nx (envQ cells h n c m x is (r.map sz).sum (pool++[x]) marks rows shuts Z (some (.lst ((gr rows shuts).map fun r=>.tup (r.map D.int)),true))) :=
   aA (comp_taken hnr (z5 (z5 (w9 _ _) (z5 G.lm hp)) (by decide)) rfl rfl (show 15 < 16 by decide)) rfl
  generalize hT:(some (D.lst ((gr rows shuts).map fun r=>.tup (r.map D.int)),true):O)=TK at *
  have s8:runS t7 (.put 4 (.var 10) (.bi .tuple [(.comp (.ix (.var 2) (.var 13)) [13] true .each [(.var 11)] (.bl true))])) (envQ cells h n c m x is (r.map sz).sum (pool++[x]) marks rows shuts Z TK)=.nx (envQ cells h n c m x is (r.map sz).sum (pool++[x]) marks (rows++[(x,r)]) shuts Z TK):=by
   have c1:=comp_ix (M:=t7) (ρ:=envQ cells h n c m x is (r.map sz).sum (pool++[x]) marks rows shuts Z TK) (t:=13) (s:=2) (v:=11) (is:=is) rfl rfl (by decide) (show 13 < 16 by decide) (fun i hi'=>by rw [z7,zl]; have:=hi i hi'; exact we ‹_›) (aX _) hil
   rw [row_at hi] at c1
   refine fj (d':=.dK ((rows++[(x,r)]).map rowK)) (aK c1 (z:=.tup (r.map D.int)) (by rw [gY,if_pos (aX _)])) rfl rfl (bA _) (by rw [← put_row hxr r]; simp only [gU,cA]; rw [if_pos l4])
  have c9:∃ t,runE t7 (.and (.cmp .eq (.bi .len [(.var 11)]) (.int 2)) (.or (.cmp .eq (.bin .mod (.bin .fdiv (.var 9) (.int 211)) (.int 4)) (.int 0)) (.cmp .mem (.dix (.var 4) (.var 10)) (.var 14)))) (envQ cells h n c m x is (r.map sz).sum (pool++[x]) marks (rows++[(x,r)]) shuts Z TK)=.ok (.bl t,.sto [])∧(t=true→r.length=2)∧(t=false→r.length=2→∀ s,(s,r)∈rows→s∈shuts):=by
   have a1:runE t7 (.cmp .eq (.bi .len [(.var 11)]) (.int 2)) (envQ cells h n c m x is (r.map sz).sum (pool++[x]) marks (rows++[(x,r)]) shuts Z TK)=.ok (.bl (decide (r.length=2)),.sto []):=by
    refine aV (x:=.int (nl is).length) (y:=.int 2) rfl rfl ?_
    rw [iE]
    show R.ok (((nl is).length:Int) == 2)=_
    unfold nl
    rw [z7,hrl]
    by_cases e:is.length=2
    ·simp [e]
    ·have:¬ ((is.length:Int)=2):=by (clear G hp hx hxr hxm l1 l2 l3 l4 l5 hi hil hn ex hrp hrl hcond hb hb1 hb2 hne hlr hnr hZ hz s6 hT s7 s8; omega)
     simp [e,this]
   cases h2:decide (r.length=2) with
   | false =>
    rw [h2] at a1
    exact ⟨false,eS a1,fun z=>(nomatch z),fun _ z=>absurd z (of_decide_eq_false h2)⟩
   | true =>
    rw [h2] at a1
    have hr2:=of_decide_eq_true h2
    rw [cP a1]
    have a2:runE t7 (.cmp .eq (.bin .mod (.bin .fdiv (.var 9) (.int 211)) (.int 4)) (.int 0)) (envQ cells h n c m x is (r.map sz).sum (pool++[x]) marks (rows++[(x,r)]) shuts Z TK)=.ok (.bl (m / 211 % 4 == 0),.sto []):=rfl
    cases h3:(m / 211 % 4 == 0) with
    | true =>
     rw [h3] at a2
     exact ⟨true,gd a2,fun _=>hr2,fun z=>(nomatch z)⟩
    | false =>
     rw [h3] at a2
     rw [cU a2]
     have hnr':((rows++[(x,r)]).map (·.1)).Nodup:=by
      rw [y3]
      exact cN hnr hxr
     have a3:runE t7 (.dix (.var 4) (.var 10)) (envQ cells h n c m x is (r.map sz).sum (pool++[x]) marks (rows++[(x,r)]) shuts Z TK)=.ok (.tup (r.map D.int),immK (.tup (r.map D.int))) :=
      gy (x:=.dK ((rows++[(x,r)]).map rowK)) (y:=.int x) rfl rfl (by show some (valD ((rows++[(x,r)]).map rowK) (zu x))=_; rw [fh hnr' (zd _ za)])
     have a4:memD (.tup (r.map D.int)) (.lst ((gr rows shuts).map fun r=>.tup (r.map D.int)))=some ((gr rows shuts).any fun j=>decide (j=r)):=by
      show (if (cA (.tup (r.map D.int))).isSome=true then memL (.tup (r.map D.int)) ((gr rows shuts).map fun r=>.tup (r.map D.int)) else memT (.tup (r.map D.int)) ((gr rows shuts).map fun r=>.tup (r.map D.int)))=_
      rw [if_neg (show ¬ (cA (.tup (r.map D.int))).isSome=true from y9)]
      simp only [memT,jk,tupKs_rows,List.any_map]
      congr 2
      funext j
      show decide (j.map (zu:Int→Key)=r.map zu)=decide (j=r)
      by_cases e:j=r
      ·rw [e]; simp
      ·rw [decide_eq_false e,decide_eq_false fun z=>e (inl_inj z)]
     refine ⟨(gr rows shuts).any fun j=>decide (j=r), ?_,fun _=>hr2,fun z _ s hs=>?_⟩
     ·rw [← hT]
      rw [← hT] at a3
      exact aV a3 (y:=.lst ((gr rows shuts).map fun r=>.tup (r.map D.int))) rfl (by rw [cmpD_9,a4])
     ·cases hd:decide (s∈shuts) with
      | true=>exact of_decide_eq_true hd
      | false =>
       exfalso
       have hm:r∈gr rows shuts:=yw.mpr ⟨(s,r),qt.mpr ⟨hs,by show (!decide (s∈shuts))=true; rw [hd]; rfl⟩,rfl⟩
       have:=ma.mp z r hm
       simp at this
  refine zz fun P_ k_=>?_
  obtain ⟨t,c9,t1,t2⟩:=c9
  refine k_ ?_
  cases t with
  | false =>
   have G':=G.row hx hrp hlr hb2 (shuts':=shuts) (.inr ⟨rfl,t2 rfl⟩)
   exact ⟨_,av ((aR hcond).trans ((ae s6).trans ((ae s7).trans ((ae s8).trans (av ((aR c9).trans bx)))))),marks,_,shuts,_,_,_,_,_,_,_,_,_,TK,congrArg (fun Z=>envQ cells h n c m x is (r.map sz).sum (pool++[x]) marks (rows++[(x,r)]) shuts Z TK) hZ.symm,G'⟩
  | true =>
   have s9:runS t7 (.app 5 (.var 10)) (envQ cells h n c m x is (r.map sz).sum (pool++[x]) marks (rows++[(x,r)]) shuts Z TK)=.nx (envQ cells h n c m x is (r.map sz).sum (pool++[x]) marks (rows++[(x,r)]) (shuts++[x]) Z TK) :=
    cV rfl rfl (zg (z5 G.ls hp) (by decide)) rfl
   have G':=G.row hx hrp hlr hb2 (shuts':=shuts++[x]) (.inl ⟨rfl,t1 rfl⟩)
   exact ⟨_,av ((aR hcond).trans ((ae s6).trans ((ae s7).trans ((ae s8).trans (av ((bu c9).trans (av s9))))))),marks,_,_,_,_,_,_,_,_,_,_,_,TK,congrArg (fun Z=>envQ cells h n c m x is (r.map sz).sum (pool++[x]) marks (rows++[(x,r)]) (shuts++[x]) Z TK) hZ.symm,G'⟩
end K21
namespace K21
open Vi K12
open PySem (Str)
noncomputable def fU (h:Int) (n:Nat):List Int:=(vw n).map fun j:Nat=>sgn h (j:Int)
theorem pool_succ (h:Int) (n:Nat):fU h (n+1)=fU h n++[sgn h (n:Int)]:=by
 unfold fU
 rw [List.range_succ,y3]
 rfl
theorem pool_len (h:Int) (n:Nat):(fU h n).length=n:=by unfold fU; rw [z7,List.length_range]
theorem pool_new {h:Int} {n:Nat} (hn:n < 900):sgn h (n:Int)∉fU h n:=fun z=>by
 obtain ⟨j,hj,e⟩:=yw.mp z
 have hj:=tw.mp hj
 have:=sgn_inj (h:=h) (j:=(j:Int)) (k:=(n:Int)) (by exact y8 _) ((ve (m:=1000)).mpr (vb hj (vb hn (by decide)))) (by exact y8 _) ((ve (m:=1000)).mpr (vb hn (by decide))) e
 exact yh hj (qm this)
theorem run_app2 {M:Tab}:∀ (a b:List S) (ρ:Vi.Env),al M (a++b) ρ=(al M a ρ).bind (al M b):=by
 intro a
 induction a with
 | nil=>intro b ρ; rw [wq,rSs_0]; rfl
 | cons s a ih =>
  intro b ρ
  rw [List.cons_append,jb,jb]
  cases runS M s ρ with
  | nx ρ1=>exact ih b ρ1
  | _=>rfl
theorem parts_ok (cells:List Int) (h:Int) (hl:cells.length≤100):∃ marks rows shuts sizes sz idx,gB [.lst (cells.map D.int),.int h]=.ok (.tup [.lst ((fU h cells.length).map D.int),.dK (marks.map da),.dK (rows.map rowK),.lst (shuts.map D.int)])∧Good (fU h cells.length) marks rows shuts sizes sz idx:=by
 refine zz fun P_ k_=>?_
 obtain ⟨ρ',e,P⟩:=forL_enum (f:=bC [7,8] false fun ρ1=>al t7 fZ ρ1)
  (fun n=>PSt cells h (fU h n)) cells 0
  (envP cells h [] [] [] [] [] none none none none none none none none none) ⟨[],[],[],[],_,_,none,none,none,none,none,none,none,rfl,Good.nil⟩ (by
   intro n c ρ hn P
   obtain ⟨marks,rows,shuts,sizes,sz,idx,a,b,m,x,i,z,k,q,G⟩:=P
   subst q
   have hpl:=pool_len h n
   have hn':n < 900:=by (clear G hpl; omega)
   have T:=turn_P cells h G (by rw [hpl]; (clear G hpl hn'; omega)) (x:=sgn h n) (by rw [hpl]) (pool_new hn') c a b m x i z k
   rw [hpl,← pool_succ] at T
   exact T)
 rw [n9] at P
 obtain ⟨marks,rows,shuts,sizes,sz,idx,a,b,m,x,i,z,k,q,G⟩:=P
 refine k_ ?_
 refine ⟨marks,rows,shuts,sizes,sz,idx,dA rfl (by decide) ?_,G⟩
 let e0:Vi.Env:=envP cells h [] [] [] [] [] none none none none none none none none none
 have h1:al t7 (cB.body.take 5) (some (.lst (cells.map D.int),false)::some (.int h,false)::yt 14 none)=.nx e0:=rfl
 have hI:runI t7 .enum [(.var 0)] e0=.ok (fY ((0:Nat):Int) (cells.map D.int),.old):=by
  have hi:cI .enum [.lst (cells.map D.int)]=some (fY 0 (cells.map D.int)):=by rw [jn,if_pos (aX _)]
  rw [rI_1,bF]
  show (match cI .enum [.lst (cells.map D.int)] with | none=>R.bad | some xs=>pure (xs,Kd.old))=_
  rw [hi]
  rfl
 have h2:runS t7 (cB.body.getD 5 .pass) e0=.nx (rest e0 e0 ρ' [7,8,9,10,11,12,14]):=by
  show runS t7 (.for [7,8] false .enum [(.var 0)] fZ) _=_
  rw [cE hI rfl]
  have el:ao e0 .old=e0:=rfl
  rw [el,e]
  rfl
 show al t7 (cB.body.take 5++[cB.body.getD 5 .pass,.ret (.tup [(.var 2),(.var 3),(.var 4),(.var 5)])]) (some (.lst (cells.map D.int),false)::some (.int h,false)::yt 14 none)=_
 rw [run_app2,h1]
 show al t7 _ _=_
 rw [ae h2]
 have g2:=bB (dO (ρ:=e0) (ρl:=e0) (ws:=[7,8,9,10,11,12,14]) (j:=2) (show ρ'[2]?=some (some (.lst ((fU h cells.length).map D.int),true)) by rw [q]; rfl) rfl fun x z=>by cases z) rfl
 have g3:=bB (dO (ρ:=e0) (ρl:=e0) (ws:=[7,8,9,10,11,12,14]) (j:=3) (show ρ'[3]?=some (some (.dK (marks.map da),true)) by rw [q]; rfl) rfl fun x z=>by cases z) rfl
 have g4:=bB (dO (ρ:=e0) (ρl:=e0) (ws:=[7,8,9,10,11,12,14]) (j:=4) (show ρ'[4]?=some (some (.dK (rows.map rowK),true)) by rw [q]; rfl) rfl fun x z=>by cases z) rfl
 have g5:=bB (dO (ρ:=e0) (ρl:=e0) (ws:=[7,8,9,10,11,12,14]) (j:=5) (show ρ'[5]?=some (some (.lst (shuts.map D.int),true)) by rw [q]; rfl) rfl fun x z=>by cases z) rfl
 refine dL (is:=[2,3,4,5]) ?_
 have es:=ak (M:=t7) (aD g2) (ak (aD g3) (ak (aD g4) (ak (aD g5) aJ)))
 rw [rE_tup,es]
 rfl
end K21
namespace K21
open Vi K12
open PySem (Str)
theorem ix_nat {l:List D} {j:Nat} {d:D} (h:l[j]?=some d):ixD (.lst l) (.int (j:Int))=.ok d:=by
 have hj:=(yi.mp h).1
 simp only [ixD,atD]
 rw [if_pos (by exact y8 _),if_pos (by exact ve.mpr ‹_›)]
 simp only [xq,h]
theorem run_ixI {M:Tab} {a i:E} {ρ:Env} {l:List Int} {j:Nat} {v:Int} {k k':Kd} (h1:runE M a ρ=.ok (.lst (l.map D.int),k)) (h2:runE M i ρ=.ok (.int (j:Int),k')) (h3:l[j]?=some v):runE M (.ix a i) ρ=.ok (.int v,.sto []):=by
 rw [rE_ix,h1]
 simp only [R.ok_bind,h2,ix_nat (l:=l.map D.int) (d:=.int v) (by rw [yn,h3]; rfl),R.pure_eq]
 cases k <;> rfl
end K21
namespace K21
open Vi K12
open PySem (Str)
theorem bG.rev {marks:List (Int × Int)} {rows:List (Int × List Int)} {shuts:List Int} (T:bG marks rows shuts):bG marks.reverse rows.reverse shuts.reverse:=by
 have mem:∀ p,p∈rows.reverse.map (·.1)↔p∈rows.map (·.1):=fun p=>by rw [xu,xp]
 refine ⟨?_,(ou (pc _)).mpr T.sh,fun s hs=>?_,fun s t r h1 h2 h3 h4 h5=>T.same s t r (xp.mp h1) (xp.mp h2) h3 (fun z=>h4 (xp.mpr z)) fun z=>h5 (xp.mpr z),fun s r h=>T.short s r (xp.mp h),
  by rw [xl,xl]; exact T.few,by rw [xl]; exact T.fewS, ?_, ?_⟩
 ·refine (ou ?_).mpr T.nodup
  rw [xu,xu]
  exact (pc _).append (pc _)
 ·obtain ⟨r,h1,h2⟩:=T.two s (xp.mp hs)
  exact ⟨r,xp.mpr h1,h2⟩
 ·obtain ⟨idx,h⟩:=T.ahead
  exact ⟨idx,fun s r hr p hp hq=>h s r (xp.mp hr) p hp ((mem p).mp hq)⟩
 ·obtain ⟨sz,h1,h2⟩:=T.size
  exact ⟨sz,fun s r hr=>h1 s r (xp.mp hr),fun p hp=>h2 p fun z=>hp ((mem p).mpr z)⟩
theorem iB {α:Type} (f:α→Int) (g:α→D) (l:List α) (hn:(l.map f).Nodup) (hg:∀ a,(g a).imm=true) (hl:l.length≤1000) {ρ:Env} {j:Int} (h3:3 < ρ.length) (h0:runE t8 (.ix (.var 0) (.int j)) ρ=.ok (.dK (l.map fun a=>(zu (f a),g a)),.old))
  (h:∀ s,runE t8 (.ix (.var 0) (.int j)) ((inComp ρ [3]).set 3 (some (.int s,true)))=.ok (.dK (l.map fun a=>(zu (f a),g a)),.old)) :
  runE t8 (.comp (.tup [(.var 3),(.dix (.ix (.var 0) (.int j)) (.var 3))]) [3] true .keys [(.ix (.var 0) (.int j))] (.bl true)) ρ=.ok (.lst (l.map fun a=>.tup [.int (f a),g a]),.sto []):=by
 have hI:runI t8 .keys [(.ix (.var 0) (.int j))] ρ=.ok (l.map fun a=>D.int (f a),.old):=by
  rw [rI_1,h0]
  simp only [R.ok_bind,eV,dS,gj,R.pure_eq,ym]
  rfl
 have hlen:3 < (inComp ρ [3]).length:=by simpa [inComp] using h3
 refine bV (b:=true) hI (by rw [z7]; exact z5 ‹_› (by decide)) (bU (fun a=>D.int (f a)) (fun a=>.tup [.int (f a),g a]) l fun a ha=>?_)
 have hb:cn (inComp ρ [3]) [3] true (.int (f a)) .old=some ((inComp ρ [3]).set 3 (some (.int (f a),true))):=by
  show aN _ 3 _ (.sto [])=_
  unfold aN
  rw [if_pos hlen]
  rfl
 have v3:runE t8 (.var 3) ((inComp ρ [3]).set 3 (some (.int (f a),true)))=.ok (.int (f a),.sto []):=aD (by unfold getV; rw [vn hlen]; rfl)
 refine cD hb (by rw [fT]; rfl) ?_
 have e:=gy (h (f a)) v3 (d:=g a) (by
  show some (valD (l.map fun a=>((zu (f a):Key),g a)) (zu (f a)))=_
  rw [gq (fun a=>(zu (f a):Key)) g (by rw [show l.map (fun a=>(zu (f a):Key))=(l.map f).map zu by rw [ym]; rfl]; exact df hn) ha])
 have hk:immK (g a)=.sto []:=by unfold immK; rw [if_pos (hg a)]
 rw [hk] at e
 exact i4 (k:=.sto []) (ak v3 (ak e aJ)) (show 2≤1000000 by decide)
theorem gf {M:Tab} {f:Nat} {as:List E} {ρ:Env} {ds:List D} {k:Kd} {d:D} (h:cp M as ρ=.ok (ds,k)) (h2:M.new f ds=.ok d):runE M (.make f as) ρ=.ok (d,.sto []):=by
 rw [rE_make,h]
 simp only [R.ok_bind,h2,R.pure_eq]
theorem flats3 {a b c:List D} (ha:immL a=true) (hb:immL b=true) (hc:immL c=true):fX [.lst a,.lst b,.lst c]=some [a,b,c]:=by
 simp only [fX,ha,hb,hc,if_true]
noncomputable abbrev bo (pool:List Int) (marks:List (Int × Int)) (rows:List (Int × List Int)) (shuts:List Int):D:=.tup [.lst (pool.map D.int),.dK (marks.map da),.dK (rows.map rowK),.lst (shuts.map D.int)]
noncomputable abbrev envB (p:D) (t:Int) (a b c:O):Vi.Env:=[some (p,false),some (.int t,false),a,none,b,c]
theorem tab_end {p:D} {t:Int} {marks:List (Int × Int)} {rows:List (Int × List Int)} {shuts:List Int} (T:bG marks rows shuts) {b:O}:∃ found,al t8 (bj.body.drop 3) (envB p t (some (.lst [.lst (marks.map bW),.lst (rows.map rowD),.lst (shuts.map D.int)],true)) b none)=.rt (tabD marks rows shuts found):=by
 obtain ⟨found,hT,_⟩:=table_ok T
 refine ⟨found, ?_⟩
 have s4:runS t8 (bj.body.getD 3 .pass) (envB p t (some (.lst [.lst (marks.map bW),.lst (rows.map rowD),.lst (shuts.map D.int)],true)) b none)=.nx (envB p t (some (.lst [.lst (marks.map bW),.lst (rows.map rowD),.lst (shuts.map D.int)],true)) b (some (tabD marks rows shuts found,true))) :=
  aA (gf (ds:=[.lst (marks.map bW),.lst (rows.map rowD),.lst (shuts.map D.int)]) rfl hT) rfl
 have s5:runS t8 (.eachClr 4 2) (envB p t (some (.lst [.lst (marks.map bW),.lst (rows.map rowD),.lst (shuts.map D.int)],true)) b (some (tabD marks rows shuts found,true)))=.nx (envB p t (some (.lst [.lst [],.lst [],.lst []],true)) none (some (tabD marks rows shuts found,true))):=by
  rw [ib]
  show (match fX [.lst (marks.map bW),.lst (rows.map rowD),.lst (shuts.map D.int)] with | some ls=>_ | none=>_)=_
  rw [flats3 (immM _) (immR _) (aX _)]
  rfl
 show al t8 [bj.body.getD 3 .pass,.eachClr 4 2,.ret (.var 5)] _=_
 rw [ae s4,ae s5]
 exact dL (is:=[5]) (aD (bB rfl rfl))
theorem table_fn {pool:List Int} {marks:List (Int × Int)} {rows:List (Int × List Int)} {shuts:List Int} (T:bG marks rows shuts) (t:Int):∃ marks' rows' shuts' found,fm [bo pool marks rows shuts,.int t]=.ok (tabD marks' rows' shuts' found)∧(rows'=rows∨rows'=rows.reverse):=by
 have hm:marks.length≤1000:=by have:=T.few; (clear T; omega)
 have hr:rows.length≤1000:=by have:=T.few; (clear T hm; omega)
 have c1:=iB (fun m:Int × Int=>m.1) (fun m=>D.int m.2) marks T.nm (fun _=>rfl) hm (ρ:=envB (bo pool marks rows shuts) t none none none) (j:=1) (show 3 < 6 by decide) rfl fun s=>rfl
 have c2:=iB (fun m:Int × List Int=>m.1) (fun m=>D.tup (m.2.map D.int)) rows T.nr (fun _=>bA _) hr (ρ:=envB (bo pool marks rows shuts) t none none none) (j:=2) (show 3 < 6 by decide) rfl fun s=>rfl
 have s1:runS t8 (bj.body.getD 0 .pass) (envB (bo pool marks rows shuts) t none none none)=.nx (envB (bo pool marks rows shuts) t (some (.lst [.lst (marks.map bW),.lst (rows.map rowD)],true)) none none):=by
  refine aA (d:=.lst [.lst (marks.map bW),.lst (rows.map rowD)]) (k:=.sto []) ?_ rfl
  rw [rE_lst,ak c1 (ak c2 aJ)]
  rfl
 have s2:runS t8 (bj.body.getD 1 .pass) (envB (bo pool marks rows shuts) t (some (.lst [.lst (marks.map bW),.lst (rows.map rowD)],true)) none none)=.nx (envB (bo pool marks rows shuts) t (some (.lst [.lst (marks.map bW),.lst (rows.map rowD),.lst (shuts.map D.int)],true)) none none):=by
  have e:runE t8 (.bi .list [(.ix (.var 0) (.int 3))]) (envB (bo pool marks rows shuts) t (some (.lst [.lst (marks.map bW),.lst (rows.map rowD)],true)) none none)=.ok (.lst (shuts.map D.int),kdOf (.lst (shuts.map D.int))):=aK (x:=.lst (shuts.map D.int)) rfl (by rw [gZ,if_pos (aX _)])
  have hk:kdOf (.lst (shuts.map D.int))=.sto []:=by unfold kdOf; rw [if_pos (show (D.lst (shuts.map D.int)).flat=true from aX _)]
  rw [hk] at e
  exact gz (i:=2) (l:=[.lst (marks.map bW),.lst (rows.map rowD)]) e rfl (show 2 < 1000000 by decide)
 have c3:runE t8 (.cmp .eq (.bin .mod (.var 1) (.int 2)) (.int 1)) (envB (bo pool marks rows shuts) t (some (.lst [.lst (marks.map bW),.lst (rows.map rowD),.lst (shuts.map D.int)],true)) none none)=.ok (.bl (t % 2 == 1),.sto []):=rfl
 have pre:∀ {ρ:Env} {d:D},runS t8 (bj.body.getD 2 .pass) (envB (bo pool marks rows shuts) t (some (.lst [.lst (marks.map bW),.lst (rows.map rowD),.lst (shuts.map D.int)],true)) none none)=.nx ρ→al t8 (bj.body.drop 3) ρ=.rt d→fm [bo pool marks rows shuts,.int t]=.ok d:=fun {ρ d} h1 h2=>by
  refine dA rfl (by decide) ?_
  show al t8 (bj.body.getD 0 .pass::bj.body.getD 1 .pass::bj.body.getD 2 .pass::bj.body.drop 3) (envB (bo pool marks rows shuts) t none none none)=_
  rw [ae s1,ae s2,ae h1]
  exact h2
 cases hb:(t % 2 == 1) with
 | false =>
  rw [hb] at c3
  obtain ⟨found,h⟩:=tab_end (p:=bo pool marks rows shuts) (t:=t) (b:=none) T
  exact ⟨marks,rows,shuts,found,pre ((aR c3).trans bx) h,.inl rfl⟩
 | true =>
  rw [hb] at c3
  obtain ⟨found,h⟩:=tab_end (p:=bo pool marks rows shuts) (t:=t) (b:=none) (bG.rev T)
  refine ⟨marks.reverse,rows.reverse,shuts.reverse,found,pre ((bu c3).trans (av ?_)) h,.inr rfl⟩
  rw [ia]
  show (match fX [.lst (marks.map bW),.lst (rows.map rowD),.lst (shuts.map D.int)] with | some ls=>_ | none=>_)=_
  rw [flats3 (immM _) (immR _) (aX _),xu,xu,xu]
  rfl
end K21
namespace K21
open Vi K12
open PySem (Str)
noncomputable def look (rows:List (Int × List Int)) (s:Int):Option (List Int):=(rows.find? fun p=>decide (p.1=s)).map (·.2)
theorem cK {rows:List (Int × List Int)} {s:Int} {r:List Int} (h:look rows s=some r):(s,r)∈rows:=by
 unfold look at h
 cases e:rows.find? fun p=>decide (p.1=s) with
 | none=>rw [e] at h; injection h
 | some p =>
  rw [e] at h
  have h1:=List.mem_of_find?_eq_some e
  have h2:p.1=s:=by have:=List.find?_some e; exact of_decide_eq_true this
  (injection h with h; subst h)
  rw [← h2]
  exact h1
theorem gK {rows:List (Int × List Int)} {s:Int} (h:look rows s=none):s∉rows.map (·.1):=fun z=>by
 obtain ⟨p,hp,e⟩:=yw.mp z
 unfold look at h
 cases e2:rows.find? fun p=>decide (p.1=s) with
 | none=>exact absurd (decide_eq_true e) (List.find?_eq_none.mp e2 p hp)
 | some p=>rw [e2] at h; injection h
theorem iQ {rows rows':List (Int × List Int)} (hn:(rows.map (·.1)).Nodup) (h:rows'=rows∨rows'=rows.reverse) (s:Int):valD (rows'.map rowK) (zu s:Key)=(look rows s).map fun r=>.tup (r.map D.int):=by
 have hn':(rows'.map (·.1)).Nodup:=by
  rcases h with h | h
  ·rw [h]; exact hn
  ·rw [h,xu]; exact (ou (pc _)).mpr hn
 have hm:∀ p,p∈rows'↔p∈rows:=fun p=>by
  rcases h with h | h
  ·rw [h]
  ·rw [h,xp]
 cases e:look rows s with
 | some r=>rw [fh hn' ((hm _).mpr (cK e))]; rfl
 | none =>
  refine dH.mpr fun z=>gK e ?_
  rw [ym] at z
  obtain ⟨p,hp,e2⟩:=yw.mp z
  exact yw.mpr ⟨p,(hm p).mp hp,u4 e2⟩
structure Opn (L:Int→Option (List Int)) (F:Int→List Int) (c:Int→Nat):Prop where
 bare:∀ s,L s=none→F s=[s]
 row:∀ s r,L s=some r→F s=r.flatMap F
 one:∀ s,1≤c s
 dec:∀ s r,L s=some r→(r.map c).sum < c s
 short:∀ s r,L s=some r→r.length≤2
 top:∀ s,c s≤3400
noncomputable def ful (L:Int→Option (List Int)):Nat→Int→List Int
 | 0,s=>[s]
 | n+1,s=>match L s with | none=>[s] | some r=>r.flatMap (ful L n)
theorem e9 {L:Int→Option (List Int)} {s:Int} (h:L s=none):∀ n,ful L n s=[s]:=by
 intro x_0
 induction x_0 with
 | zero =>
  exact rfl
 | succ n ih_ =>
  simp only [ful,h]
theorem flatMap_same {f g:Int→List Int}:∀ {r:List Int},(∀ p∈r,f p=g p)→r.flatMap f=r.flatMap g:=by
 intro x_0
 induction x_0 with
 | nil =>
  intro _
  exact rfl
 | cons a r ih_ =>
  intro h
  rw [wx,wx,h a za,ih_ fun p hp=>h p (z8 _ hp)]
theorem ful_stay {L:Int→Option (List Int)} {idx:Int→Nat} (hne:∀ s r,L s=some r→r≠[]) (hix:∀ s r,L s=some r→∀ p∈r,idx p < idx s):∀ (n:Nat) (s:Int),idx s≤n→ful L (n+1) s=ful L n s:=by
 intro n
 induction n with
 | zero =>
  intro s h
  cases e:L s with
  | none=>rw [e9 e,e9 e]
  | some r =>
   cases r with
   | nil=>exact absurd rfl (hne s _ e)
   | cons a r=>exact absurd (zm (hix s _ e a za) h) (wo _)
 | succ n ih =>
  intro s h
  cases e:L s with
  | none=>rw [e9 e,e9 e]
  | some r =>
   have h1:ful L (n+1+1) s=r.flatMap (ful L (n+1)):=by rw [ful]; simp only [e]
   have h2:ful L (n+1) s=r.flatMap (ful L n):=by rw [ful]; simp only [e]
   rw [h1,h2]
   exact flatMap_same fun p hp=>ih p (wf (zm (hix s r e p hp) h))
theorem sum_nn {sz:Int→Int} {r:List Int} (h:∀ p∈r,1≤sz p):(r.length:Int)≤(r.map sz).sum:=by
 induction r with
 | nil=>exact Int.le_refl _
 | cons a r ih =>
  have h1:=h a za
  have h2:=ih fun p hp=>h p (z8 _ hp)
  rw [zc,sx,yx]
  exact sq (Int.le_of_eq (Int.add_comm (r.length:Int) 1)) (Int.add_le_add h1 h2)
theorem dec_two (x y i j k:Nat) (h:i≤100) (h2:j < k):101 * x+i+1+(101 * y+j+1) < 101 * (x+y+1)+k+1:=by
 have e:101 * x+i+1+(101 * y+j+1)=101 * x+101 * y+((i+1)+(j+1)):=Nat.add_add_add_comm (101 * x) (i+1) (101 * y) (j+1)
 rw [e,Nat.mul_add,Nat.mul_add]
 exact r4 (z5 (yz (wa (xo h) h2) _) (xy (ql _ _ _).symm))
theorem pos_sz {L:Int→Option (List Int)} {ix:Int→Nat} {sz:Int→Int} (hne:∀ s r,L s=some r→r≠[]) (hix:∀ s r,L s=some r→∀ p∈r,ix p < ix s) (h1:∀ s,L s=none→sz s=1) (h2:∀ s r,L s=some r→sz s=(r.map sz).sum):∀ (n:Nat) (s:Int),ix s < n→1≤sz s:=by
 intro n
 induction n with
 | zero=>exact fun s h=>absurd h (wo _)
 | succ n ih =>
  intro s h
  cases e:L s with
  | none=>rw [h1 s e]; exact Int.le_refl _
  | some r =>
   rw [h2 s r e]
   refine sq ?_ (sum_nn fun p hp=>ih p (zm (hix s r e p hp) (wf h)))
   cases r with
   | nil=>exact absurd rfl (hne s _ e)
   | cons a r=>exact uz.mpr (xo (xc _))
theorem opn_of {L:Int→Option (List Int)} {ix w:Int→Nat} (hne:∀ s r,L s=some r→r.length=1∨r.length=2) (hix:∀ s r,L s=some r→∀ p∈r,ix p < ix s) (top:∀ s,ix s≤100) (hw:∀ s,w s≤15) (h1:∀ s a,L s=some [a]→w s=w a) (h2:∀ s a b,L s=some [a,b]→w s=w a+w b+1) :
  Opn L (ful L 100) fun s=>101 * w s+ix s+1:=by
 refine ⟨fun s h=>e9 h _,fun s r h=>?_,fun s=>xo (xc _),fun s r h=>?_,fun s r h=>?_,fun s=>?_⟩
 ·rw [← ful_stay (fun s r h e=>by rcases hne s r h with l | l <;> rw [e] at l <;> injection l) hix 100 s (top s),ful]
  simp only [h]
 ·have hx:=hix s r h
  rcases r with _ | ⟨a,_ | ⟨b,_ | ⟨x,r⟩⟩⟩
  ·exact Nat.succ_pos _
  ·show 101 * w a+ix a+1+0 < 101 * w s+ix s+1
   rw [h1 s a h]
   exact Nat.succ_lt_succ (Nat.add_lt_add_left (hx a za) _)
  ·show 101 * w a+ix a+1+(101 * w b+ix b+1+0) < 101 * w s+ix s+1
   rw [h2 s a b h]
   exact dec_two _ _ _ _ _ (top a) (hx b (z8 _ za))
  ·rcases hne s _ h with l | l
   ·exact absurd (mn.inj l) (Nat.succ_ne_zero _)
   ·exact absurd (mn.inj (mn.inj l)) (Nat.succ_ne_zero _)
 ·rcases hne s r h with l | l <;> rw [l] <;> decide
 ·exact z5 (xo (wa (uc 101 (hw s)) (top s))) (by decide)
theorem opn_ok {pool:List Int} {marks:List (Int × Int)} {rows:List (Int × List Int)} {shuts:List Int} {sizes:List (Key × D)} {sz:Int→Int} {idx:Int→Nat} (G:Good pool marks rows shuts sizes sz idx) (hp:pool.length≤100):∃ F c,Opn (look rows) F c:=by
 have hne:∀ s r,look rows s=some r→r.length=1∨r.length=2:=fun s r h=>G.short s r (cK h)
 have hnn:∀ s r,look rows s=some r→r≠[]:=fun s r h e=>by rcases hne s r h with l | l <;> rw [e] at l <;> injection l
 let ix:Int→Nat:=fun s=>if (look rows s).isSome=true then idx s else 0
 have ixs:∀ {s r},look rows s=some r→ix s=idx s:=fun {s r} h=>by show (if (look rows s).isSome=true then idx s else 0)=_; rw [h]; rfl
 have ixn:∀ {s},look rows s=none→ix s=0:=fun {s} h=>by show (if (look rows s).isSome=true then idx s else 0)=_; rw [h]; rfl
 have hix:∀ s r,look rows s=some r→∀ p∈r,ix p < ix s:=fun s r h p hp=>by
  have h1:=G.ixr s r (cK h) p hp
  rw [ixs h]
  cases e:look rows p with
  | none=>rw [ixn e]; exact zg (xc _) h1
  | some q=>rw [ixs e]; exact h1
 have top:∀ s,ix s≤100:=fun s=>by
  cases e:look rows s with
  | none=>rw [ixn e]; exact xc _
  | some r =>
   rw [ixs e]
   exact z5 (xn (G.ix s (G.rp s (yw.mpr ⟨_,cK e,rfl⟩)))) hp
 have szn:∀ s,look rows s=none→sz s=1:=fun s h=>G.sz1 s (gK h)
 have pos:∀ s,1≤sz s:=fun s=>pos_sz hnn hix szn (fun s r h=>(G.szr s r (cK h)).1) _ s (rj _)
 have wz:∀ s,sz s=((sz s - 1).toNat:Int)+1:=fun s=>by
  rw [tm (Int.sub_nonneg_of_le (pos s)),Int.sub_add_cancel]
 refine ⟨ful (look rows) 100,_,opn_of (w:=fun s=>(sz s - 1).toNat) hne hix top (fun s=>?_) (fun s a h=>?_) fun s a b h=>?_⟩
 ·have cap:sz s≤16:=by
   cases e:look rows s with
   | none=>rw [szn s e]; decide
   | some r=>exact (G.szr s r (cK e)).2
  exact Int.toNat_le.mpr (Int.sub_le_sub_right cap 1)
 ·have e:sz s=sz a+0:=(G.szr s _ (cK h)).1
  rw [Int.add_zero] at e
  show (sz s - 1).toNat=(sz a - 1).toNat
  rw [e]
 ·have e:sz s=sz a+(sz b+0):=(G.szr s _ (cK h)).1
  have ea:=wz a
  have eb:=wz b
  show (sz s - 1).toNat=(sz a - 1).toNat+(sz b - 1).toNat+1
  rw [e,Int.add_zero]
  generalize (sz a - 1).toNat=x at ea
  generalize (sz b - 1).toNat=y at eb
  rw [ea,eb]
  show ((x:Int)+1+(y+1) - 1).toNat=_
  rw [← Int.add_assoc,Int.add_sub_cancel,Int.add_right_comm]
  rfl
theorem w1 : (("row" : Str) == ("rank_by_sign" : Str)) = false := by decide +kernel
theorem w2 : (("row" : Str) == ("row_by_sign" : Str)) = false := by decide +kernel
theorem w3 : (("row" : Str) == ("shut_by_sign" : Str)) = false := by decide +kernel
theorem w4 : (("row" : Str) == ("sign_by_pair" : Str)) = false := by decide +kernel
theorem fld_row {marks : List (Int × Int)} {rows : List (Int × List Int)} {shuts : List Int} {found : List (List Key × D)} {ρ : Env} (h : ρ[0]? = some (some (tabD marks rows shuts found, false))) : runE t0 (.fld (.var 0) "row_by_sign") ρ = .ok (.dK (rows.map rowK), .old) := by
 have g:getV ρ 0=.ok (tabD marks rows shuts found,.old):=by unfold getV; rw [h]; rfl
 rw [rE_fld,aD g]
 simp only [R.ok_bind,yf,n1,beq_self_eq_true]
 rfl
theorem trow_eq {marks:List (Int × Int)} {rows' rows:List (Int × List Int)} {shuts:List Int} {found:List (List Key × D)} (hn:(rows.map (·.1)).Nodup) (h:rows'=rows∨rows'=rows.reverse) (s:Int):bO [tabD marks rows' shuts found,.int s]=.ok (((look rows s).map fun r=>D.tup (r.map D.int)).getD .non):=by
 refine dA rfl (by decide) (dL (is:=[]) ?_)
 have f:=fld_row (ρ:=[some (tabD marks rows' shuts found,false),some (.int s,false)]) rfl
 rw [rE_get1, show runE t0 (.fld (.var 0) "row_by_sign") ([tabD marks rows' shuts found, .int s].map (fun d => some (d, false)) ++ yt (bX.slots - bX.par) none) = _ from f]
 simp only [R.ok_bind]
 rw [show runE t0 (.var 1) ([tabD marks rows' shuts found,.int s].map (fun d=>some (d,false))++yt (bX.slots - bX.par) none)=.ok (.int s,.sto []) from rfl]
 simp only [R.ok_bind,dk,cA,iQ hn h,R.pure_eq]
 cases look rows s with
 | none=>rfl
 | some r =>
  show R.ok (D.tup (r.map D.int),immK (.tup (r.map D.int)))=_
  unfold immK
  rw [if_pos (bA _)]
  rfl
end K21
namespace K21
open Vi K12
open PySem (Str)
theorem run_pop {M:Tab} {i j:Nat} {ρ ρ':Env} {V:List Int} {s:Int} (hl:ρ[j]?=some (some (.lst ((V++[s]).map D.int),true))) (hij:i≠j) (hi:i < ρ.length) (e:(ρ.set j (some (.lst (V.map D.int),true))).set i (some (.int s,true))=ρ'):runS M (.pop i j) ρ=.nx ρ':=by
 rw [rS_pop,hl,ownL_1]
 have e1:((V++[s]).map D.int).getLast?=some (.int s):=by rw [y3]; simp
 have e2:((V++[s]).map D.int).dropLast=V.map D.int:=by rw [y3]; simp
 show (match ((V++[s]).map D.int).getLast? with | some d=>_ | none=>_)=_
 rw [e1]
 show (if (D.int s).imm=true∧i≠j∧i < ρ.length then _ else _)=_
 rw [if_pos ⟨rfl,hij,hi⟩,e2,e]
theorem run_extT {M:Tab} {i:Nat} {e:E} {ρ ρ':Env} {V r:List Int} {k:Kd} (h:runE M e ρ=.ok (.tup (r.map D.int),k)) (hl:ρ[i]?=some (some (.lst (V.map D.int),true))) (hc:V.length+r.length≤1000000) (e':ρ.set i (some (.lst ((V++r).map D.int),true))=ρ'):runS M (.ext i e) ρ=.nx ρ':=by
 rw [rS_ext,h,hl]
 show (if immL (r.map D.int)=true∧(V.map D.int).length+(r.map D.int).length≤1000000 then Out.nx (ρ.set i (some (.lst (V.map D.int++r.map D.int),true))) else .bad)=_
 rw [if_pos ⟨aX _,by rw [z7,z7]; exact hc⟩,← e',y3]
theorem sum_append (c:Int→Nat) (a b:List Int):((a++b).map c).sum=(a.map c).sum+(b.map c).sum:=by rw [y3,List.sum_append]
theorem iR (c:Int→Nat) (a:List Int):(a.reverse.map c).sum=(a.map c).sum:=by rw [xu,List.sum_reverse]
theorem gL {c:Int→Nat} (h:∀ s,1≤c s):∀ l:List Int,l.length≤(l.map c).sum:=by
 intro x_0
 induction x_0 with
 | nil =>
  exact zf _
 | cons a l ih_ =>
  rw [zc,sx,yx]
  rw [p9]
  exact wa (h a) ih_
noncomputable abbrev envO (t x:D) (told wait:List Int) (a b:O):Vi.Env:=[some (t,false),some (x,false),some (.lst (told.map D.int),true),some (.lst (wait.map D.int),true),a,b]
noncomputable abbrev bodyO:List S:=match gm.body.getD 2 .pass with
 | .whl _ _ b=>b
 | _=>[]
section
variable {L:Int→Option (List Int)} {F:Int→List Int} {c:Int→Nat} {t x:D} {fs:List (Str × D)}
theorem turn_O (ht : t = .obj 0 fs) (hf : fs.lookup ("row" : Str) = none) (hr : ∀ s, bO [t, .int s] = .ok (((L s).map fun r => D.tup (r.map D.int)).getD .non)) {told V : List Int} {s : Int} {a b : O} (h1 : told.length < 900000) (h2 : V.length < 900000) (hs : ∀ r, L s = some r → r.length ≤ 2) :
  ∃ a' b',al t5 bodyO (envO t x told (V++[s]) a b)=.nx (match L s with | none=>envO t x (told++[s]) V a' b' | some r=>envO t x told (V++r.reverse) a' b'):=by
 have s1:runS t5 (bodyO.getD 0 .pass) (envO t x told (V++[s]) a b)=.nx (envO t x told V (some (.int s,true)) b):=run_pop (i:=4) (j:=3) rfl (by decide) (show 4 < 6 by decide) rfl
 have s2:∀ {d:D},bO [t,.int s]=.ok d→aN (envO t x told V (some (.int s,true)) b) 5 d (.sto [])=some (envO t x told V (some (.int s,true)) (some (d,true)))→runS t5 (bodyO.getD 1 .pass) (envO t x told V (some (.int s,true)) b)=.nx (envO t x told V (some (.int s,true)) (some (d,true))):=fun {d} hd he=>by
  refine aA (k:=.sto []) ?_ he
  have v0:runE t5 (.var 0) (envO t x told V (some (.int s,true)) b)=.ok (t,.old):=aD (by unfold getV; rw [ht]; rfl)
  rw [rE_meth,v0]
  simp only [R.ok_bind]
  rw [ak (show runE t5 (.var 4) (envO t x told V (some (.int s,true)) b)=.ok (.int s,.sto []) from rfl) aJ,ht]
  simp only [R.ok_bind]
  rw [if_pos hf,← ht,show t5.fn 7 [t,.int s]=bO [t,.int s] from rfl,hd]
  rfl
 cases e:L s with
 | none =>
  have hd:=hr s
  rw [e] at hd
  have s2:=s2 hd rfl
  have c3:runE t5 (.cmp .isN (.var 5) .non) (envO t x told V (some (.int s,true)) (some (.non,true)))=.ok (.bl true,.sto []):=rfl
  exact ⟨_,_,(ae s1).trans ((ae s2).trans (av ((bu c3).trans (av (cV (l:=told) (x:=s) rfl rfl (by exact zm ‹_› (by decide)) rfl)))))⟩
 | some r =>
  have hd:=hr s
  rw [e] at hd
  have s2:=s2 (d:=.tup (r.map D.int)) hd rfl
  have c3:runE t5 (.cmp .isN (.var 5) .non) (envO t x told V (some (.int s,true)) (some (.tup (r.map D.int),true)))=.ok (.bl false,.sto []):=by
   refine aV (x:=.tup (r.map D.int)) (y:=.non) (k:=.sto []) (k':=.sto []) (aD ?_) (by rw [rE_non]) rfl
   show R.ok (D.tup (r.map D.int),if (D.tup (r.map D.int)).imm=true then Kd.sto [] else _)=_
   rw [if_pos (bA _)]
  have rv:runE t5 (.rev (.var 5)) (envO t x told V (some (.int s,true)) (some (.tup (r.map D.int),true)))=.ok (.tup (r.reverse.map D.int),.sto []):=by
   have v5:runE t5 (.var 5) (envO t x told V (some (.int s,true)) (some (.tup (r.map D.int),true)))=.ok (.tup (r.map D.int),.sto []):=by
    refine aD ?_
    show R.ok (D.tup (r.map D.int),if (D.tup (r.map D.int)).imm=true then Kd.sto [] else _)=_
    rw [if_pos (bA _)]
   rw [ic,v5]
   simp only [R.ok_bind]
   rw [if_pos (aX _),xu]
   rfl
  exact ⟨_,_,(ae s1).trans ((ae s2).trans (av ((aR c3).trans (av (run_extT rv rfl (by rw [xl]; exact z5 (wa (xn h2) (hs r e)) (by decide)) rfl)))))⟩
theorem loop_O (P : Opn L F c) (ht : t = .obj 0 fs) (hf : fs.lookup ("row" : Str) = none) (hr : ∀ s, bO [t, .int s] = .ok (((L s).map fun r => D.tup (r.map D.int)).getD .non)) : ∀ (n k : Nat) (told wait : List Int) (a b : O), (wait.map c).sum ≤ n → n < k → told.length + n < 900000 →
  ∃ a' b',whlL (fun ρ=>tru1 (runE t5 (.var 3) ρ)) (fun ρ=>al t5 bodyO ρ) k (envO t x told wait a b)=.nx (envO t x (told++wait.reverse.flatMap F) [] a' b'):=by
 intro n
 induction n with
 | zero =>
  intro k told wait a b h1 h2 _
  have hw:wait=[]:=by
   cases wait with
   | nil=>rfl
   | cons s w=>rw [zc,sx] at h1; exact absurd (z5 (z5 (P.one s) (yc _ _)) h1) (by decide)
  subst hw
  cases k with
  | zero=>exact absurd ‹_ < _› (wo _)
  | succ k=>exact ⟨a,b,by rw [List.reverse_nil,rq,xf]; rfl⟩
 | succ n ih =>
  intro k told wait a b h1 h2 h3
  cases k with
  | zero=>exact absurd ‹_ < _› (wo _)
  | succ k =>
   rcases List.eq_nil_or_concat wait with hw | ⟨V,s,hw⟩
   ·subst hw
    exact ⟨a,b,by rw [List.reverse_nil,rq,xf]; rfl⟩
   ·rw [List.concat_eq_append] at hw
    subst hw
    rw [sum_append,so,nq] at h1
    have hV:=gL P.one V
    have ho:=P.one s
    obtain ⟨a1,b1,e1⟩:=turn_O (x:=x) ht hf hr (told:=told) (V:=V) (s:=s) (a:=a) (b:=b) (by exact zg (yc _ _) ‹_›) (zg (z5 hV (z5 (yc _ (c s)) (z5 h1 (w9 _ _)))) h3) fun r h=>P.short s r h
    have hc:tru1 (runE t5 (.var 3) (envO t x told (V++[s]) a b))=.ok true:=by
     rw [show runE t5 (.var 3) (envO t x told (V++[s]) a b)=.ok (.lst ((V++[s]).map D.int),.sto [3]) from rfl]
     show R.ok (!((V++[s]).map D.int).isEmpty)=_
     rw [y3]
     simp
    have go:whlL (fun ρ=>tru1 (runE t5 (.var 3) ρ)) (fun ρ=>al t5 bodyO ρ) (k+1) (envO t x told (V++[s]) a b)=whlL (fun ρ=>tru1 (runE t5 (.var 3) ρ)) (fun ρ=>al t5 bodyO ρ) k (match L s with | none=>envO t x (told++[s]) V a1 b1 | some r=>envO t x told (V++r.reverse) a1 b1):=by
     simp only [whlL,hc,e1]
    rw [go,qe,List.reverse_singleton,List.singleton_append,wx]
    cases e:L s with
    | none =>
     obtain ⟨a2,b2,e2⟩:=ih k (told++[s]) V a1 b1 (sj (z5 (yz ho _) h1)) (by exact wf ‹_›) (by rw [zl,xx,ql,p9 1 n]; exact h3)
     refine ⟨a2,b2, ?_⟩
     rw [P.bare s e,← wy]
     exact e2
    | some r =>
     have hd:=P.dec s r e
     obtain ⟨a2,b2,e2⟩:=ih k told (V++r.reverse) a1 b1 (by rw [sum_append,iR]; exact sj (z5 (yz hd _) h1)) (by exact wf ‹_›) (by exact xn ‹_›)
     refine ⟨a2,b2, ?_⟩
     rw [P.row s r e,← wv]
     rw [qe,uy] at e2
     exact e2
end
end K21
namespace K21
open Vi K12
open PySem (Str)
theorem hG (n:Nat):∀ a:Nat,bh (a:Int) 1 n=(List.range' a n).map fun (i:Nat)=>D.int (i:Int):=by
 induction n with
 | zero=>intro a; rfl
 | succ n ih =>
  intro a
  rw [List.range'_succ,zc]
  show D.int (a:Int)::bh ((a:Int)+1) 1 n=_
  rw [show ((a:Int)+1)=((a+1:Nat):Int) by rfl,ih]
section
variable {L:Int→Option (List Int)} {F:Int→List Int} {c:Int→Nat} {rows:List (Int × List Int)}
theorem range_items (n:Nat) (h:n≤100000):cI .range [.int (n:Int)]=some (nl (vw n)):=by
 have hb : -(2 ^ 62)≤(n:Int)∧(n:Int) < 2 ^ 62:=by omega
 rw [gk,if_pos hb,xq,show bh 0 1 n=bh ((0:Nat):Int) 1 n from rfl,hG,← List.range_eq_range']
 rfl
theorem run_items {M:Tab} {ik:Itk} {a:E} {ρ:Env} {d:D} {k:Kd} {xs:List D} (h1:runE M a ρ=.ok (d,k)) (h2:cI ik [d]=some xs) (hr:ik=.range):runI M ik [a] ρ=.ok (xs,.sto []):=by
 rw [rI_1,h1]
 simp only [R.ok_bind,eV,dS,h2,R.pure_eq]
 rw [hr]
end
end K21
namespace K21
open Vi K12
open PySem (Str)
theorem cut_len (l:List Int) (a b:Nat):(cutD l (some (a:Int)) (some (b:Int))).length≤b - a:=by
 show ((l.drop (if (a:Int) < 0 then ((a:Int)+l.length).toNat else min (a:Int).toNat l.length)).take ((if (b:Int) < 0 then ((b:Int)+l.length).toNat else min (b:Int).toNat l.length) - (if (a:Int) < 0 then ((a:Int)+l.length).toNat else min (a:Int).toNat l.length))).length≤_
 rw [if_neg (by exact u9.mpr (y8 _)),if_neg (by exact u9.mpr (y8 _)),xq,xq,tz]
 refine z5 (Nat.min_le_left _ _) ?_
 rcases Nat.le_total a l.length with h | h
 ·rw [vp h]; exact Nat.sub_le_sub_right (Nat.min_le_left _ _) _
 ·rw [ri h,Nat.sub_eq_zero_of_le (pv _ _)]; exact xc _
theorem get_obj {ρ:Env} {i c:Nat} {fs:List (Str × D)} (h:ρ[i]?=some (some (.obj c fs,true))):getV ρ i=.ok (.obj c fs,.sto [i]):=bB h rfl
end K21
namespace K22
open Vi K12 K21
open PySem (Str)
noncomputable def f_once:Fn:=⟨2,5,[
 .set 2 (.lst []),
 .for [3] true .each [(.var 1)] [.set 4 (.meth 7 "row" (.var 0) [(.var 3)]), .ifs (.cmp .isN (.var 4) .non) [.app 2 (.var 3)] [.ext 2 (.var 4)]],
 .ret (.var 2)]⟩
noncomputable def f_depth:Fn:=⟨2,5,[
 .set 2 (.int 0),
 .set 3 (.var 1),
 .whl 1000000 (.bi .any [(.comp (.cmp .notN (.meth 7 "row" (.var 0) [(.var 4)]) .non) [4] true .each [(.var 3)] (.bl true))]) [.set 3 (.call 20 [(.var 0), (.var 3)]), .set 2 (.bin .add (.var 2) (.int 1))],
 .ret (.var 2)]⟩
noncomputable def gn:Fn:=⟨3,7,[
 .set 3 (.lst []),
 .for [4,5] false .enum [(.var 0)] [.set 6 (.call 12 [(.var 5),(.var 4),(.var 2)]),.ifs (.or (.cmp .eq (.bin .mod (.var 6) (.int 9)) (.int 8)) (.cmp .eq (.var 1) (.lst []))) [.app 3 (.bin .add (.bin .pow (.int 10) (.int 50)) (.bin .mod (.var 5) (.bin .pow (.int 10) (.int 9))))] [.app 3 (.ix (.var 1) (.bin .mod (.bin .fdiv (.var 6) (.int 9)) (.bi .len [(.var 1)])))]],
 .ret (.var 3)]⟩
noncomputable def eL:Fn:=⟨1,2,[
 .ret (.and (.bi .isList [(.var 0)]) (.bi .all [(.comp (.call 11 [(.var 1)]) [1] true .each [(.var 0)] (.bl true))]))]⟩
noncomputable def r_once:=f_once.run t5
noncomputable def t20:Tab:=⟨fun i=>match i with | 7=>bO | 20=>r_once | _=>fun _=>.bad,nofn⟩
noncomputable def gC:=f_depth.run t20
noncomputable def t21:Tab:=⟨fun i=>match i with | 12=>r_mix | _=>fun _=>.bad,nofn⟩
noncomputable def r_text:=gn.run t21
noncomputable def t22:Tab:=⟨fun i=>match i with | 11=>eU | _=>fun _=>.bad,nofn⟩
noncomputable def dQ:=eL.run t22
end K22
namespace K22
open Vi K12 K21
open PySem (Str)
noncomputable def o1 (L:Int→Option (List Int)) (s:Int):List Int:=(L s).getD [s]
noncomputable def onc (L:Int→Option (List Int)) (x:List Int):List Int:=x.flatMap (o1 L)
noncomputable def hasR (L:Int→Option (List Int)) (x:List Int):Bool:=x.any fun s=>(L s).isSome
noncomputable def rowV (L:Int→Option (List Int)) (s:Int):D:=((L s).map fun r=>D.tup (r.map D.int)).getD .non
inductive Dn (L:Int→Option (List Int)):Nat→List Int→List Int→Prop
 | z {x:List Int} (h:hasR L x=false):Dn L 0 x x
 | s {n:Nat} {x y:List Int} (h:hasR L x=true) (d:Dn L n (onc L x) y):Dn L (n+1) x y
section
variable {L:Int→Option (List Int)} {F:Int→List Int} {c:Int→Nat}
theorem je (s:Int) (x:List Int):onc L (s::x)=o1 L s++onc L x:=wx
theorem onc_snoc (s:Int) (x:List Int):onc L (x++[s])=onc L x++o1 L s:=by
 unfold onc
 rw [wv,wx,rq,xf]
theorem o1_le (P:Opn L F c) (s:Int):((o1 L s).map c).sum≤c s∧((L s).isSome=true→((o1 L s).map c).sum < c s):=by
 unfold o1
 cases e:L s with
 | none=>exact ⟨by rw [tt,so,nq]; exact zf _,fun h=>by injection h⟩
 | some r=>exact ⟨xn (P.dec s r e),fun _=>P.dec s r e⟩
theorem onc_le (P:Opn L F c):∀ x:List Int,((onc L x).map c).sum≤(x.map c).sum∧(hasR L x=true→((onc L x).map c).sum < (x.map c).sum):=by
 intro x_0
 induction x_0 with
 | nil =>
  exact ⟨zf _,fun h=>by injection h⟩
 | cons s x ih_ =>
  rw [je,sum_append,zc,sx]
  have h1:=o1_le P s
  have h2:=ih_
  refine ⟨wa h1.1 h2.1,fun h=>?_⟩
  rcases Bool.or_eq_true _ _ ▸ h with z | z
  ·exact Nat.add_lt_add_of_lt_of_le (h1.2 z) h2.1
  ·exact Nat.add_lt_add_of_le_of_lt h1.1 (h2.2 z)
theorem onc_len (P:Opn L F c):∀ x:List Int,(onc L x).length≤2 * x.length:=by
 intro x_0
 induction x_0 with
 | nil =>
  exact zf _
 | cons s x ih_ =>
  rw [je,zl,yx,Nat.mul_succ,p9]
  refine wa (ih_) ?_
  unfold o1
  cases e:L s with
  | none=>exact rf 1
  | some r=>exact P.short s r e
theorem flat_onc (P:Opn L F c):∀ x:List Int,(onc L x).flatMap F=x.flatMap F:=by
 intro x_0
 induction x_0 with
 | nil =>
  exact rfl
 | cons s x ih_ =>
  rw [je,wv,ih_,wx]
  congr 1
  unfold o1
  cases e:L s with
  | none=>rw [tt,wx,rq,xf]
  | some r=>exact (P.row s r e).symm
theorem bare_all:∀ {x:List Int},hasR L x=false→∀ s∈x,L s=none
 | a::x,h,s,hs=>by
  have h:((L a).isSome || hasR L x)=false:=h
  rw [Bool.or_eq_false_iff] at h
  rcases y6.mp hs with e | e
  ·rw [e]
   cases q:L a with
   | none=>rfl
   | some r=>rw [q] at h; exact px h.1
  ·exact bare_all h.2 s e
theorem flat_bare (P:Opn L F c):∀ {x:List Int},hasR L x=false→x.flatMap F=x:=by
 intro x_0
 induction x_0 with
 | nil =>
  intro _
  exact rfl
 | cons a x ih_ =>
  intro h
  have hb:=bare_all h
  rw [wx,P.bare a (hb a za),ih_ (by
   have h:((L a).isSome || hasR L x)=false:=h
   exact (Bool.or_eq_false_iff.mp h).2)]
  rfl
theorem dn_ex (P:Opn L F c):∀ (n:Nat) (x:List Int),(x.map c).sum≤n→∃ m y,Dn L m x y∧m≤n:=by
 intro n
 induction n with
 | zero =>
  intro x h
  cases e:hasR L x with
  | false=>exact ⟨0,x,.z e,zf _⟩
  | true=>exact absurd (zm ((onc_le P x).2 e) h) (wo _)
 | succ n ih =>
  intro x h
  cases e:hasR L x with
  | false=>exact ⟨0,x,.z e,xc _⟩
  | true =>
   refine zz fun P_ k_=>?_
   obtain ⟨m,y,d,hm⟩:=ih (onc L x) (wf (zm ((onc_le P x).2 e) h))
   refine k_ ?_
   exact ⟨m+1,y,.s e d,xo hm⟩
theorem Dn.out (P:Opn L F c) {m:Nat} {x y:List Int} (d:Dn L m x y):hasR L y=false∧y=x.flatMap F:=by
 induction d with
 | z h=>exact ⟨h,(flat_bare P h).symm⟩
 | s h d ih=>exact ⟨ih.1,ih.2.trans (flat_onc P _)⟩
end
section
variable {L:Int→Option (List Int)} {F:Int→List Int} {c:Int→Nat} {t x:D} {fs:List (Str × D)}
theorem run_row {M : Tab} (hM : M.fn 7 = bO) (ht : t = .obj 0 fs) (hf : fs.lookup ("row" : Str) = none) (hr : ∀ s, bO [t, .int s] = .ok (rowV L s)) {ρ : Env} {j : Nat} {s : Int} (h0 : ρ[0]? = some (some (t, false))) (hj : runE M (.var j) ρ = .ok (.int s, .sto [])) :
  runE M (.meth 7 "row" (.var 0) [(.var j)]) ρ = .ok (rowV L s, .sto []) := by
 have v0:runE M (.var 0) ρ=.ok (t,.old):=aD (by unfold getV; rw [h0,ht]; rfl)
 rw [rE_meth,v0]
 simp only [R.ok_bind]
 rw [ak hj aJ,ht]
 simp only [R.ok_bind]
 rw [if_pos hf,← ht,hM,hr s]
 rfl
noncomputable abbrev envU (t x:D) (told:List Int) (a b:O):Vi.Env:=[some (t,false),some (x,false),some (.lst (told.map D.int),true),a,b]
noncomputable abbrev bodyU:List S:=match f_once.body.getD 1 .pass with
 | .for _ _ _ _ b=>b
 | _=>[]
theorem turn_U (P : Opn L F c) (ht : t = .obj 0 fs) (hf : fs.lookup ("row" : Str) = none) (hr : ∀ s, bO [t, .int s] = .ok (rowV L s)) {told : List Int} (h : told.length ≤ 900000) (s : Int) (a b : O) :
  ∃ a' b',bC [3] true (fun ρ1=>al t5 bodyU ρ1) (envU t x told a b) (.int s)=.nx (envU t x (told++o1 L s) a' b'):=by
 have q:=run_row (M:=t5) rfl ht hf hr (ρ:=envU t x told (some (.int s,true)) b) (j:=3) (s:=s) rfl rfl
 have st:∀ {ρ':Env},runS t5 (bodyU.getD 1 .pass) (envU t x told (some (.int s,true)) (some (rowV L s,true)))=.nx ρ'→aN (envU t x told (some (.int s,true)) b) 4 (rowV L s) (.sto [])=some (envU t x told (some (.int s,true)) (some (rowV L s,true)))→bC [3] true (fun ρ1=>al t5 bodyU ρ1) (envU t x told a b) (.int s)=.nx ρ':=fun h2 h1=>(ae (aA q h1)).trans (av h2)
 unfold rowV at q st
 unfold o1
 cases e:L s with
 | none =>
  rw [e] at st
  have c3:runE t5 (.cmp .isN (.var 4) .non) (envU t x told (some (.int s,true)) (some (.non,true)))=.ok (.bl true,.sto []):=rfl
  exact ⟨_,_,st ((bu c3).trans (av (cV (l:=told) (x:=s) rfl rfl (zg h (by decide)) rfl))) rfl⟩
 | some r =>
  rw [e] at st
  have v4:runE t5 (.var 4) (envU t x told (some (.int s,true)) (some (.tup (r.map D.int),true)))=.ok (.tup (r.map D.int),.sto []):=aD (jx (i:=4) rfl (bA r))
  have c3:runE t5 (.cmp .isN (.var 4) .non) (envU t x told (some (.int s,true)) (some (.tup (r.map D.int),true)))=.ok (.bl false,.sto []):=aV v4 (y:=.non) (k':=.sto []) (by rw [rE_non]) rfl
  exact ⟨_,_,st ((aR c3).trans (av (run_extT v4 rfl (z5 (wa h (P.short s r e)) (by decide)) rfl))) rfl⟩
theorem once_eq (P : Opn L F c) (ht : t = .obj 0 fs) (hf : fs.lookup ("row" : Str) = none) (hr : ∀ s, bO [t, .int s] = .ok (rowV L s)) {x : List Int} (hx : x.length ≤ 300000) : r_once [t, .lst (x.map D.int)] = .ok (.lst ((onc L x).map D.int)) := by
 refine zz fun P_ k_=>?_
 obtain ⟨ρ',e,a,b,q⟩:=cx (f:=bC [3] true fun ρ1=>al t5 bodyU ρ1) (fun p ρ=>∃ a b,ρ=envU t (.lst (x.map D.int)) (onc L p) a b) D.int x [] (envU t (.lst (x.map D.int)) [] none none) ⟨none,none,rfl⟩ (by
  intro p s q ρ e hh
  obtain ⟨a,b,er⟩:=hh
  subst er
  have hp:p.length≤300000:=by
   have h1:=congrArg vg (show x=p++s::q from e)
   rw [zl] at h1
   exact z5 (z5 (yc _ _) (xy h1.symm)) hx
  obtain ⟨a',b',e'⟩:=turn_U (x:=.lst (x.map D.int)) P ht hf hr (told:=onc L p) (z5 (onc_len P p) (z5 (uc 2 hp) (by decide))) s a b
  exact ⟨_,e',a',b',by rw [onc_snoc]⟩)
 refine k_ ?_
 have hI:runI t5 .each [.var 1] (envU t (.lst (x.map D.int)) [] none none)=.ok (x.map D.int,.old):=by rw [rI_1,bF]; rfl
 have s2:runS t5 (.for [3] true .each [(.var 1)] bodyU) (envU t (.lst (x.map D.int)) [] none none)=.nx (rest (envU t (.lst (x.map D.int)) [] none none) (envU t (.lst (x.map D.int)) [] none none) ρ' ([3]++asgs bodyU)):=by
  rw [cE hI rfl,show ao (envU t (.lst (x.map D.int)) [] none none) .old=envU t (.lst (x.map D.int)) [] none none from rfl,e]
  rfl
 refine dA rfl (by decide) ((ae (ρ':=envU t (.lst (x.map D.int)) [] none none) rfl).trans ((ae s2).trans (dL (is:=[2]) (aD (bB (dO (ρ:=envU t (.lst (x.map D.int)) [] none none) (ρl:=envU t (.lst (x.map D.int)) [] none none) (ws:=[3]++asgs bodyU) (j:=2) (show ρ'[2]?=some (some (.lst ((onc L x).map D.int),true)) by rw [q]; rfl) rfl fun x z=>by cases z) rfl)))))
noncomputable abbrev envH (t x:D) (n:Int) (cur:List Int) (o:Bool):Vi.Env:=[some (t,false),some (x,false),some (.int n,true),some (.lst (cur.map D.int),o),none]
noncomputable abbrev condH : E := .bi .any [(.comp (.cmp .notN (.meth 7 "row" (.var 0) [(.var 4)]) .non) [4] true .each [(.var 3)] (.bl true))]
noncomputable abbrev bodyH:List S:=[.set 3 (.call 20 [(.var 0),(.var 3)]),.set 2 (.bin .add (.var 2) (.int 1))]
theorem cond_H (ht : t = .obj 0 fs) (hf : fs.lookup ("row" : Str) = none) (hr : ∀ s, bO [t, .int s] = .ok (rowV L s)) (n : Int) {cur : List Int} (hc : cur.length ≤ 300000) (o : Bool) : runE t20 condH (envH t x n cur o) = .ok (.bl (hasR L cur), .sto []) := by
 have hI:∃ k,runI t20 .each [.var 3] (envH t x n cur o)=.ok (cur.map D.int,k):=by
  rw [rI_1,bF]
  cases o <;> exact ⟨_,rfl⟩
 obtain ⟨k,hI⟩:=hI
 have c1 : runE t20 (.comp (.cmp .notN (.meth 7 "row" (.var 0) [(.var 4)]) .non) [4] true .each [(.var 3)] (.bl true)) (envH t x n cur o) = .ok (.lst (cur.map fun s => D.bl (L s).isSome), .sto []) := by
  refine bV (b:=true) hI (by rw [z7]; exact z5 hc (by decide)) (bU D.int (fun s=>D.bl (L s).isSome) cur fun s _=>cD (ρ1:=(inComp (envH t x n cur o) [4]).set 4 (some (.int s,true))) rfl (by rw [fT]; rfl) ?_)
  refine aV (run_row (M:=t20) rfl ht hf hr (j:=4) (s:=s) rfl rfl) (y:=.non) (k':=.sto []) (by rw [rE_non]) ?_
  rw [cmpD_8]
  unfold rowV
  cases L s <;> rfl
 refine aK c1 (z:=.bl (hasR L cur)) ?_
 rw [biD_5,jH]
 show R.ok (D.bl ((cur.map fun s=>(L s).isSome).any id))=_
 rw [List.any_map]
 rfl
theorem loop_H (P : Opn L F c) (ht : t = .obj 0 fs) (hf : fs.lookup ("row" : Str) = none) (hr : ∀ s, bO [t, .int s] = .ok (rowV L s)) {m : Nat} {cur y : List Int} (d : Dn L m cur y) : ∀ (k : Nat) (n : Int) (o : Bool), m < k → (cur.map c).sum ≤ 300000 →
  ∃ o',whlL (fun ρ=>tru1 (runE t20 condH ρ)) (fun ρ=>al t20 bodyH ρ) k (envH t x n cur o)=.nx (envH t x (n+m) y o'):=by
 induction d with
 | z h =>
  intro k n o hk hc
  cases k with
  | zero=>exact absurd hk (wo _)
  | succ k =>
   have cc:=cond_H (x:=x) ht hf hr n (z5 (gL P.one _) hc) o
   rw [h] at cc
   exact ⟨o,by rw [whl_f (show tru1 (runE t20 condH _)=.ok false by rw [cc]; rfl)]; rw [show n+((0:Nat):Int)=n from Int.add_zero n]⟩
 | @s m cur y h d ih =>
  intro k n o hk hc
  cases k with
  | zero=>exact absurd hk (wo _)
  | succ k =>
   have hl:=z5 (gL P.one cur) hc
   have cc:=cond_H (x:=x) ht hf hr n hl o
   rw [h] at cc
   have v0:runE t20 (.var 0) (envH t x n cur o)=.ok (t,.old):=aD (by unfold getV; rw [ht]; rfl)
   have v3:∃ kk,runE t20 (.var 3) (envH t x n cur o)=.ok (.lst (cur.map D.int),kk):=by rw [bF]; cases o <;> exact ⟨_,rfl⟩
   obtain ⟨kk,v3⟩:=v3
   have s1:runS t20 (.set 3 (.call 20 [(.var 0),(.var 3)])) (envH t x n cur o)=.nx (envH t x n (onc L cur) true):=aA (aE (ak v0 (ak v3 aJ)) (once_eq P ht hf hr hl)) rfl
   have s2:runS t20 (.set 2 (.bin .add (.var 2) (.int 1))) (envH t x n (onc L cur) true)=.nx (envH t x (n+1) (onc L cur) true):=aA (ax (x:=.int n) (y:=.int 1) (k:=.sto []) (k':=.sto []) rfl rfl rfl) rfl
   obtain ⟨o',e⟩:=ih k (n+1) true (Nat.lt_of_succ_lt_succ hk) (z5 (onc_le P cur).1 hc)
   refine ⟨o',(whl_t (show tru1 (runE t20 condH _)=.ok true by rw [cc]; rfl) ((ae s1).trans (av s2))).trans ?_⟩
   rw [e,show n+((m+1:Nat):Int)=n+1+(m:Int) by rw [Int.natCast_add,Int.add_assoc,Int.add_comm 1]; rfl]
theorem depth_eq (P : Opn L F c) (ht : t = .obj 0 fs) (hf : fs.lookup ("row" : Str) = none) (hr : ∀ s, bO [t, .int s] = .ok (rowV L s)) {m : Nat} {x y : List Int} (d : Dn L m x y) (hm : m ≤ 300000) (hc : (x.map c).sum ≤ 300000) : gC [t, .lst (x.map D.int)] = .ok (.int m) := by
 obtain ⟨o,e⟩:=loop_H (x:=.lst (x.map D.int)) P ht hf hr d 1000000 0 false (zg hm (by decide)) hc
 rw [Int.zero_add] at e
 exact dA rfl (by decide) ((ae (ρ':=[some (t,false),some (.lst (x.map D.int),false),some (.int 0,true),none,none]) rfl).trans ((ae (ρ':=envH t (.lst (x.map D.int)) 0 x false) rfl).trans ((ae (iZ.trans e)).trans rfl)))
theorem gF (P : Opn L F c) (ht : t = .obj 0 fs) (hf : fs.lookup ("row" : Str) = none) (hr : ∀ s, bO [t, .int s] = .ok (rowV L s)) {x : List Int} (hc : (x.map c).sum ≤ 700000) : du [t, .lst (x.map D.int)] = .ok (.lst ((x.flatMap F).map D.int)) := by
 obtain ⟨a,b,e⟩:=loop_O (x:=.lst (x.map D.int)) P ht hf hr 700000 1000000 [] x.reverse none none (by rw [iR]; exact hc) (by decide) (by decide)
 rw [wq,uy] at e
 have s2:runS t5 (.set 3 (.rev (.var 1))) [some (t,false),some (.lst (x.map D.int),false),some (.lst [],true),none,none,none]=.nx (envO t (.lst (x.map D.int)) [] x.reverse none none):=by
  refine aA (d:=.lst (x.reverse.map D.int)) (k:=.sto []) ?_ rfl
  rw [ic,show runE t5 (.var 1) [some (t,false),some (.lst (x.map D.int),false),some (.lst [],true),none,none,none]=.ok (.lst (x.map D.int),.old) from rfl]
  simp only [R.ok_bind]
  rw [if_pos (aX _),xu]
  rfl
 exact dA rfl (by decide) ((ae (ρ':=[some (t,false),some (.lst (x.map D.int),false),some (.lst [],true),none,none,none]) rfl).trans ((ae s2).trans ((ae (iZ.trans e)).trans (dL (is:=[2]) rfl))))
end
end K22
namespace K22
open Vi K12 K21
open PySem (Str)
theorem mix_any (c k b:Int) (h1:0≤k) (h2:k < 1000) (h3:0≤b) (h4:b < 1000000):∃ m,r_mix [.int c,.int k,.int b]=.ok (.int m):=by
 have a1:runE t0 (.bin .mul (.var 0) (.var 2)) [some (.int c,false),some (.int k,false),some (.int b,false)]=.ok (.int (c * b),.sto []):=ax rfl rfl (by rw [opD_3,if_pos (.inr ⟨wm (by decide) h3,vf h4 (by decide)⟩)])
 have a2:runE t0 (.bin .mul (.var 1) (.int 2654435)) [some (.int c,false),some (.int k,false),some (.int b,false)]=.ok (.int (k * 2654435),.sto []):=ax rfl rfl (mul_in (wm (by decide) h1) (vf h2 (by decide)))
 exact ⟨(c * b+k * 2654435+40503) % 2147483629,dA rfl (by decide) (dL (is:=[]) (ax (ax (ax a1 a2 (z:=.int (c * b+k * 2654435)) rfl) rfl rfl) rfl rfl))⟩
noncomputable abbrev envX (cells signs:List Int) (y:Int) (found:List Int) (a b m:O):Vi.Env:=[some (.lst (cells.map D.int),false),some (.lst (signs.map D.int),false),some (.int y,false),some (.lst (found.map D.int),true),a,b,m]
noncomputable abbrev bodyX:List S:=match gn.body.getD 1 .pass with
 | .for _ _ _ _ b=>b
 | _=>[]
theorem turn_X (cells signs:List Int) (y:Int) (hy:0≤y∧y < 1000000) {n:Nat} (hn:n < 900) {found:List Int} (hf:found.length=n) (c:Int) (a b m0:O) :
  ∃ ρ',bC [4,5] false (fun ρ1=>al t21 bodyX ρ1) (envX cells signs y found a b m0) (.tup [.int n,.int c])=.nx ρ'∧∃ found' a' b' m',ρ'=envX cells signs y found' a' b' m'∧found'.length=n+1:=by
 obtain ⟨m,hm⟩:=mix_any c (n:Int) y (y8 _) (ve.mpr (vb hn (by decide))) hy.1 hy.2
 let ρ:Vi.Env:=envX cells signs y found (some (.int n,true)) (some (.int c,true)) (some (.int m,true))
 have s1:runS t21 (.set 6 (.call 12 [(.var 5),(.var 4),(.var 2)])) (envX cells signs y found (some (.int n,true)) (some (.int c,true)) m0)=.nx ρ:=aA (aE (ds:=[.int c,.int n,.int y]) rfl hm) rfl
 have a1:runE t21 (.cmp .eq (.bin .mod (.var 6) (.int 9)) (.int 8)) ρ=.ok (.bl (m % 9 == 8),.sto []):=rfl
 have a2:runE t21 (.cmp .eq (.var 1) (.lst [])) ρ=.ok (.bl (decide (signs=[])),.sto []):=run_eqI (l:=signs) (r:=[]) rfl rfl
 have fin:∀ {v:Int},runS t21 (bodyX.getD 1 .pass) ρ=.nx (envX cells signs y (found++[v]) (some (.int n,true)) (some (.int c,true)) (some (.int m,true))) →
   ∃ ρ',bC [4,5] false (fun ρ1=>al t21 bodyX ρ1) (envX cells signs y found a b m0) (.tup [.int n,.int c])=.nx ρ'∧∃ found' a' b' m',ρ'=envX cells signs y found' a' b' m'∧found'.length=n+1:=fun {v} h =>
  ⟨_,(ae s1).trans (av h),found++[v],_,_,_,rfl,by rw [zl,hf]; rfl⟩
 have app:∀ {e:E} {v:Int},runE t21 e ρ=.ok (.int v,.sto [])→runS t21 (.app 3 e) ρ=.nx (envX cells signs y (found++[v]) (some (.int n,true)) (some (.int c,true)) (some (.int m,true))):=fun {e v} hv=>cV (l:=found) (x:=v) hv rfl (by rw [hf]; exact vb hn (by decide)) rfl
 have big:runE t21 (.bin .add (.bin .pow (.int 10) (.int 50)) (.bin .mod (.var 5) (.bin .pow (.int 10) (.int 9)))) ρ=.ok (.int (10 ^ 50+c % 10 ^ 9),.sto []) :=
  ax (run_pow 50 (by decide)) (ax (x:=.int c) (k:=.sto []) rfl (run_pow 9 (by decide)) (z:=.int (c % 10 ^ 9)) (by rw [opD_5,if_pos (by decide)])) (z:=.int (10 ^ 50+c % 10 ^ 9)) (by rw [opD_1])
 cases h1:(m % 9 == 8) with
 | true=>rw [h1] at a1; exact fin ((bu (gd a1)).trans (av (app big)))
 | false =>
  rw [h1] at a1
  by_cases h2:signs=[]
  ·rw [decide_eq_true h2] at a2
   exact fin ((bu ((cU a1).trans a2)).trans (av (app big)))
  ·rw [decide_eq_false h2] at a2
   have hl:0 < signs.length:=List.length_pos_iff.mpr h2
   have hl1:(0:Int) < (signs.length:Int):=ve.mpr hl
   have hl0:¬ (signs.length:Int)=0:=fun z=>p8 hl (qm z)
   let j:Nat:=(m / 9 % (signs.length:Int)).toNat
   have ej:m / 9 % (signs.length:Int)=(j:Int):=(tm (ua _ hl0)).symm
   have hj:j < signs.length:=(Int.toNat_lt (ua _ hl0)).mpr (vz _ hl1)
   refine fin ((aR ((cU a1).trans a2)).trans (av (app (run_ixI (l:=signs) (k:=.old) (k':=.sto []) rfl ?_ (z9 hj)))))
   refine ax (x:=.int (m / 9)) (k:=.sto []) rfl (aK (x:=.lst (signs.map D.int)) (k:=.old) (z:=.int (signs.map D.int).length) rfl rfl) (z:=.int (j:Int)) ?_
   rw [z7,opD_5,if_pos hl1,ej]
theorem text_eq (cells signs:List Int) (y:Int) (hy:0≤y∧y < 1000000) (hl:cells.length≤800):∃ x:List Int,r_text [.lst (cells.map D.int),.lst (signs.map D.int),.int y]=.ok (.lst (x.map D.int))∧x.length=cells.length:=by
 refine zz fun P_ k_=>?_
 obtain ⟨ρ',e,P⟩:=forL_enum (f:=bC [4,5] false fun ρ1=>al t21 bodyX ρ1) (fun n ρ=>∃ found a b m,ρ=envX cells signs y found a b m∧found.length=n) cells 0 (envX cells signs y [] none none none) ⟨[],none,none,none,rfl,rfl⟩ (by
  intro n c ρ hn hh
  obtain ⟨found,a,b,m,er,hf⟩:=hh
  subst er
  rw [n9] at hn
  exact turn_X cells signs y hy (zm hn (z5 hl (by decide))) hf c a b m)
 obtain ⟨found,a,b,m,q,hf⟩:=P
 refine k_ ?_
 rw [n9] at hf
 refine ⟨found, ?_,hf⟩
 have hI:runI t21 .enum [(.var 0)] (envX cells signs y [] none none none)=.ok (fY ((0:Nat):Int) (cells.map D.int),.old):=by
  rw [rI_1,bF]
  show (match cI .enum [.lst (cells.map D.int)] with | none=>R.bad | some xs=>pure (xs,Kd.old))=_
  rw [jn,if_pos (aX _)]
  rfl
 have s2:runS t21 (.for [4,5] false .enum [(.var 0)] bodyX) (envX cells signs y [] none none none)=.nx (rest (envX cells signs y [] none none none) (envX cells signs y [] none none none) ρ' ([4,5]++asgs bodyX)):=by
  rw [cE hI rfl,show ao (envX cells signs y [] none none none) .old=envX cells signs y [] none none none from rfl,e]
  rfl
 exact dA rfl (by decide) ((ae (ρ':=envX cells signs y [] none none none) rfl).trans ((ae s2).trans (dL (is:=[3]) (aD (bB (dO (ρ:=envX cells signs y [] none none none) (ρl:=envX cells signs y [] none none none) (ws:=[4,5]++asgs bodyX) (j:=3) (show ρ'[3]?=some (some (.lst (found.map D.int),true)) by rw [q]; rfl) rfl fun x z=>by cases z) rfl)))))
theorem is_text_eq {x:List Int} (hx:x.length≤1000000):dQ [.lst (x.map D.int)]=.ok (.bl true):=by
 let ρ:Vi.Env:=[some (.lst (x.map D.int),false),none]
 have hI:runI t22 .each [.var 0] ρ=.ok (x.map D.int,.old):=by rw [rI_1,bF]; rfl
 have q2:runE t22 (.comp (.call 11 [(.var 1)]) [1] true .each [(.var 0)] (.bl true)) ρ=.ok (.lst (x.map fun _=>.bl true),.sto []) :=
  bV (b:=true) hI (by rw [z7]; exact hx) (bU D.int (fun _=>.bl true) x fun y _=>cD (ρ1:=(inComp ρ [1]).set 1 (some (.int y,true))) rfl (by rw [fT]; rfl) (aE (ds:=[.int y]) (k:=.sto []) rfl (is_int_eq y)))
 have q3:=aK q2 (b:=.all) (z:=.bl true) (by
  rw [biD_6,jH (fun _=>true)]
  show R.ok (D.bl ((x.map fun _=>true).all id))=_
  rw [show (x.map fun _=>true).all id=true by rw [q4]; intro z hz; obtain ⟨_,_,e⟩:=yw.mp hz; rw [← e]; rfl])
 exact dA rfl (by decide) (dL (is:=[]) ((cP (aK (x:=.lst (x.map D.int)) (k:=.old) (z:=.bl true) rfl rfl)).trans q3))
section
variable {L:Int→Option (List Int)} {F:Int→List Int} {c:Int→Nat} {t:D} {fs:List (Str × D)}
end
end K22
namespace K22
open Vi K12 K21
open PySem (Str)
theorem run_varL {M:Tab} {ρ:Env} {i:Nat} {l:List D} {o:Bool} (h:ρ[i]?=some (some (.lst l,o))):runE M (.var i) ρ=.ok (.lst l,if o=true then .sto [i] else .old):=aD (by unfold getV; rw [h]; rfl)
theorem sum_top {c:Int→Nat} (h:∀ s,c s≤3400):∀ x:List Int,(x.map c).sum≤3400 * x.length:=by
 intro x_0
 induction x_0 with
 | nil =>
  exact zf _
 | cons s x ih_ =>
  rw [zc,sx,yx,Nat.mul_succ,p9]
  exact wa (ih_) (h s)
theorem no_row {marks : List (Int × Int)} {rows : List (Int × List Int)} {shuts : List Int} {found : List (List Key × D)} : wk ("row" : Str) [("rank_by_sign", D.dK (marks.map da)), ("row_by_sign", .dK (rows.map rowK)), ("shut_by_sign", .dK (shuts.map dD)), ("sign_by_pair", .dT found)] = none := by
 simp only [yf,w1,w2,w3,w4,List.lookup_nil]
end K22
namespace K24
open Vi K12 K21 K22
open PySem (Str)
noncomputable def cZ:Fn:=⟨2,5,[
 .set 2 (.lst []),
 .set 3 (.bi .list [(.rev (.var 1))]),
 .whl 1000000 (.cmp .ne (.var 3) (.lst [])) [.pop 4 3,.ifs (.cmp .mem (.var 4) (.var 0)) [.ext 3 (.bi .list [(.rev (.dix (.var 0) (.var 4)))])] [.app 2 (.var 4)]],
 .ret (.var 2)]⟩
noncomputable def dh:Fn:=⟨2,5,[
 .set 2 (.lst []),
 .for [3] true .range [(.bi .len [(.var 1)])] [.ifs (.cmp .mem (.ix (.var 1) (.var 3)) (.var 0)) [.app 2 (.tup [(.var 3),(.int 1),(.bi .list [(.dix (.var 0) (.ix (.var 1) (.var 3)))])])] [],.for [4] true .keys [(.var 0)] [.ifs (.cmp .eq (.bi .tuple [(.sl (.var 1) (.var 3) (.bin .add (.var 3) (.bi .len [(.dix (.var 0) (.var 4))])))]) (.dix (.var 0) (.var 4))) [.app 2 (.tup [(.var 3),(.bi .len [(.dix (.var 0) (.var 4))]),(.lst [(.var 4)])])] []]],
 .ret (.var 2)]⟩
noncomputable def d3:Fn:=⟨1,16,[
 .set 1 (.call 10 [(.var 0),(.int 0)]),
 .set 2 (.bin .mod (.call 10 [(.var 0),(.int 1)]) (.int 15)),
 .set 3 (.call 15 [(.sl (.var 0) (.int 2) (.bin .add (.int 2) (.var 2))),(.var 1)]),
 .set 4 (.call 16 [(.var 3),(.bin .fdiv (.var 1) (.int 7))]),
 .set 5 (.dnew false),
 .lnd 3 [.for [6] true .keys [(.ix (.var 3) (.int 2))] [.put 5 (.var 6) (.bi .tuple [(.bi .list [(.rev (.dix (.ix (.var 3) (.int 2)) (.var 6)))])])]],
 .set 7 (.make 0 [(.lst []),(.comp (.tup [(.var 6),(.dix (.var 5) (.var 6))]) [6] true .keys [(.var 5)] (.bl true)),(.comp (.var 6) [6] true .keys [(.var 5)] (.cmp .eq (.bi .len [(.dix (.var 5) (.var 6))]) (.int 2)))]),
 .set 8 (.call 22 [(.sl (.var 0) (.bin .add (.int 2) (.var 2)) (.bin .add (.int 8) (.var 2))),(.ix (.var 3) (.int 0)),(.int 69623)]),
 .set 9 (.call 28 [(.ix (.var 3) (.int 2)),(.var 8)]),
 .for [10] true .each [(.bin .add (.lst [(.int 0)]) (.sl (.var 0) (.bin .add (.int 8) (.var 2)) (.bin .add (.int 20) (.var 2))))] [.set 11 (.call 29 [(.ix (.var 3) (.int 2)),(.var 8)]),.ifs (.cmp .ne (.var 11) (.lst [])) [.wth [12,13,14] 11 (.ix (.var 11) (.bin .mod (.var 10) (.bi .len [(.var 11)]))) [.set 8 (.bin .add (.bin .add (.sl (.var 8) .nil (.var 12)) (.var 14)) (.sl (.var 8) (.bin .add (.var 12) (.var 13)) .nil))]] [],.set 15 (.call 8 [(.var 4),(.bi .list [(.var 8)])]),.ifs (.or (.not (.call 23 [(.var 15)])) (.cmp .ne (.var 15) (.var 9))) [.ret (.bl false)] [],.ifs (.and (.cmp .eq (.bin .mod (.var 10) (.int 4)) (.int 1)) (.cmp .ne (.call 8 [(.var 7),(.bi .list [(.var 8)])]) (.call 28 [(.var 5),(.var 8)]))) [.ret (.bl false)] []],
 .ret (.and (.cmp .eq (.call 21 [(.var 4),(.var 9)]) (.int 0)) (.cmp .eq (.call 8 [(.var 4),(.var 9)]) (.var 9)))]⟩
noncomputable def gE:=cZ.run t0
noncomputable def fo:=dh.run t0
noncomputable def t28:Tab:=⟨fun i=>match i with | 8=>du | 10=>r_nth | 15=>gB | 16=>K21.fm | 21=>gC | 22=>r_text | 23=>dQ | 28=>gE | 29=>fo | _=>fun _=>.bad,fun i=>match i with | 0=>dR | _=>fun _=>.bad⟩
noncomputable def r_law:=d3.run t28
end K24
namespace K24
open Vi K12 K21 K22
open PySem (Str)
noncomputable def bk (rows:List (Int × List Int)):List (Int × List Int):=rows.map fun p=>(p.1,p.2.reverse)
noncomputable def twos (rows:List (Int × List Int)):List Int:=(rows.filter fun p=>decide (p.2.length=2)).map (·.1)
section
variable {rows:List (Int × List Int)} {s:Int} {r:List Int}
theorem jI:(bk rows).map (·.1)=rows.map (·.1):=by
 unfold bk
 rw [ym]
 rfl
theorem bk_mem (h:(s,r)∈bk rows):(s,r.reverse)∈rows:=by
 obtain ⟨p,hp,e⟩:=yw.mp h
 injection e with e1 e2
 rw [← e1,← e2,uy]
 exact hp
theorem twos_mem (h:s∈twos rows):∃ r,(s,r)∈rows∧r.length=2:=by
 refine zz fun P_ k_=>?_
 obtain ⟨p,hp,e⟩:=yw.mp h
 obtain ⟨h1,h2⟩:=qt.mp hp
 refine k_ ?_
 exact ⟨p.2,by rw [← e]; exact h1,of_decide_eq_true h2⟩
theorem mem_twos (h:(s,r)∈rows) (h2:r.length=2):s∈twos rows:=yw.mpr ⟨(s,r),qt.mpr ⟨h,decide_eq_true h2⟩,rfl⟩
theorem twos_len:(twos rows).length≤rows.length:=by
 unfold twos
 rw [z7]
 exact List.length_filter_le _ _
theorem bk_good {pool:List Int} {marks:List (Int × Int)} {shuts:List Int} {sizes:List (Key × D)} {sz:Int→Int} {idx:Int→Nat} (G:Good pool marks rows shuts sizes sz idx):Good pool [] (bk rows) (twos (bk rows)) sizes sz idx:=by
 have nd:((bk rows).map (·.1)).Nodup:=by
  rw [jI]
  exact (x4.mp G.nodup).2.1
 have ln:(bk rows).length=rows.length:=z7 _
 have lr:rows.length≤pool.length:=z5 (w9 _ _) G.lm
 refine ⟨G.pn,nd,fun _ h=>(nomatch h),fun s h=>G.rp s (by rw [jI] at h; exact h), ?_,fun s h=>twos_mem h,fun s t r h _ h2 n _=>absurd (mem_twos h h2) n,fun s r h=>?_,fun s r h p hp=>G.parts s _ (bk_mem h) p (xp.mpr hp),G.szs,fun s r h=>?_,fun p h=>G.sz1 p (by rw [jI] at h; exact h),G.ix,fun s r h p hp=>G.ixr s _ (bk_mem h) p (xp.mpr hp), ?_, ?_,G.lz⟩
 ·exact nd.sublist (List.filter_sublist.map _)
 ·have:=G.short s _ (bk_mem h)
  rw [xl] at this
  exact this
 ·have:=G.szr s _ (bk_mem h)
  rw [xu,List.sum_reverse] at this
  exact this
 ·rw [ln]
  exact z5 (xy (n9 _)) lr
 ·exact z5 twos_len (by rw [ln]; exact lr)
end
theorem run_extL {M:Tab} {i:Nat} {e:E} {ρ ρ':Env} {V r:List Int} (h:runE M e ρ=.ok (.lst (r.map D.int),.sto [])) (hl:ρ[i]?=some (some (.lst (V.map D.int),true))) (hc:V.length+r.length≤1000000) (e':ρ.set i (some (.lst ((V++r).map D.int),true))=ρ'):runS M (.ext i e) ρ=.nx ρ':=by
 rw [rS_ext,h,hl]
 show (if immL (r.map D.int)=true∧(V.map D.int).length+(r.map D.int).length≤1000000 then Out.nx (ρ.set i (some (.lst (V.map D.int++r.map D.int),true))) else .bad)=_
 rw [if_pos ⟨aX r,by rw [z7,z7]; exact hc⟩,← y3,e']
theorem run_revT {M:Tab} {a:E} {ρ:Env} {r:List Int} {k:Kd} (h:runE M a ρ=.ok (.tup (r.map D.int),k)):runE M (.bi .list [(.rev a)]) ρ=.ok (.lst (r.reverse.map D.int),.sto []):=by
 have h1:runE M (.rev a) ρ=.ok (.tup (r.reverse.map D.int),.sto []):=by
  rw [ic,h]
  simp only [R.ok_bind]
  rw [if_pos (aX _),xu]
  rfl
 have h2:=aK h1 (b:=.list) (z:=.lst (r.reverse.map D.int)) (by rw [biD_20,if_pos (aX _)])
 rw [h2,jm (aX _)]
theorem run_revL {M:Tab} {a:E} {ρ:Env} {r:List Int} {k:Kd} (h:runE M a ρ=.ok (.lst (r.map D.int),k)):runE M (.bi .list [(.rev a)]) ρ=.ok (.lst (r.reverse.map D.int),.sto []):=by
 have h1:runE M (.rev a) ρ=.ok (.lst (r.reverse.map D.int),.sto []):=by
  rw [ic,h]
  simp only [R.ok_bind]
  rw [if_pos (aX _),xu]
  rfl
 have h2:=aK h1 (b:=.list) (z:=.lst (r.reverse.map D.int)) (by rw [gZ,if_pos (aX _)])
 rw [h2,jm (aX _)]
noncomputable abbrev envN (rows:List (Int × List Int)) (x:D) (told wait:List Int) (a:O):Vi.Env:=[some (.dK (rows.map rowK),false),some (x,false),some (.lst (told.map D.int),true),some (.lst (wait.map D.int),true),a]
noncomputable abbrev bodyN:List S:=match cZ.body.getD 2 .pass with
 | .whl _ _ b=>b
 | _=>[]
noncomputable abbrev condN:E:=match cZ.body.getD 2 .pass with
 | .whl _ c _=>c
 | _=>.nil
noncomputable def Rows (rows:List (Int × List Int)) (L:Int→Option (List Int)):Prop:=∀ s,valD (rows.map rowK) (zu s:Key)=(L s).map fun r=>.tup (r.map D.int)
section
variable {L:Int→Option (List Int)} {F:Int→List Int} {c:Int→Nat} {x:D} {rows:List (Int × List Int)}
theorem mem_row {M:Tab} {a b:E} {ρ:Env} {s:Int} {k k':Kd} (hL:Rows rows L) (h1:runE M a ρ=.ok (.int s,k)) (h2:runE M b ρ=.ok (.dK (rows.map rowK),k')):runE M (.cmp .mem a b) ρ=.ok (.bl (L s).isSome,.sto []) :=
 aV h1 h2 (by
  rw [cmpD_9,show memD (.int s) (.dK (rows.map rowK))=some (valD (rows.map rowK) (zu s:Key)).isSome from rfl,hL s]
  cases L s <;> rfl)
theorem dix_row {M:Tab} {a b:E} {ρ:Env} {s:Int} {r:List Int} {k k':Kd} (hL:Rows rows L) (e:L s=some r) (h1:runE M a ρ=.ok (.dK (rows.map rowK),k)) (h2:runE M b ρ=.ok (.int s,k')):runE M (.dix a b) ρ=.ok (.tup (r.map D.int),.sto []) :=
 d9 h1 h2 (by show some (valD (rows.map rowK) (zu s:Key))=_; rw [hL s,e]; rfl) (bA _)
theorem turn_N (hL:Rows rows L) {told V:List Int} {s:Int} {a:O} (h1:told.length < 900000) (h2:V.length < 900000) (hs:∀ r,L s=some r→r.length≤2) :
  al t0 bodyN (envN rows x told (V++[s]) a)=.nx (match L s with | none=>envN rows x (told++[s]) V (some (.int s,true)) | some r=>envN rows x told (V++r.reverse) (some (.int s,true))):=by
 have s1:runS t0 (bodyN.getD 0 .pass) (envN rows x told (V++[s]) a)=.nx (envN rows x told V (some (.int s,true))):=run_pop (i:=4) (j:=3) rfl (by decide) (show 4 < 5 by decide) rfl
 have v4:runE t0 (.var 4) (envN rows x told V (some (.int s,true)))=.ok (.int s,.sto []):=rfl
 have v0:runE t0 (.var 0) (envN rows x told V (some (.int s,true)))=.ok (.dK (rows.map rowK),.old):=rfl
 have c2:=mem_row hL v4 v0
 cases e:L s with
 | none =>
  rw [e] at c2
  exact (ae s1).trans (av ((aR c2).trans (av (cV (l:=told) (x:=s) v4 rfl (zm h1 (by decide)) rfl))))
 | some r =>
  rw [e] at c2
  have hr:=hs r e
  exact (ae s1).trans (av ((bu c2).trans (av (run_extL (run_revT (dix_row hL e v0 v4)) rfl (by rw [xl]; exact z5 (wa (xn h2) hr) (by decide)) rfl))))
theorem loop_N (P:Opn L F c) (hL:Rows rows L):∀ (n k:Nat) (told wait:List Int) (a:O),(wait.map c).sum≤n→n < k→told.length+n < 900000 →
  ∃ a',whlL (fun ρ=>tru1 (runE t0 condN ρ)) (fun ρ=>al t0 bodyN ρ) k (envN rows x told wait a)=.nx (envN rows x (told++wait.reverse.flatMap F) [] a'):=by
 intro n
 have stop:∀ (k:Nat) (told:List Int) (a:O),∃ a',whlL (fun ρ=>tru1 (runE t0 condN ρ)) (fun ρ=>al t0 bodyN ρ) (k+1) (envN rows x told [] a)=.nx (envN rows x (told++([]:List Int).reverse.flatMap F) [] a'):=fun k told a =>
  ⟨a,by rw [List.reverse_nil,rq,xf]; exact whl_f rfl⟩
 induction n with
 | zero =>
  intro k told wait a h1 h2 _
  have hw:wait=[]:=by
   cases wait with
   | nil=>rfl
   | cons s w=>rw [zc,sx] at h1; exact absurd (z5 (z5 (P.one s) (yc _ _)) h1) (by decide)
  subst hw
  cases k with
  | zero=>exact absurd h2 (wo _)
  | succ k=>exact stop k told a
 | succ n ih =>
  intro k told wait a h1 h2 h3
  cases k with
  | zero=>exact absurd h2 (wo _)
  | succ k =>
   rcases List.eq_nil_or_concat wait with hw | ⟨V,s,hw⟩
   ·subst hw
    exact stop k told a
   ·rw [List.concat_eq_append] at hw
    subst hw
    rw [sum_append,so,nq] at h1
    have hV:=gL P.one V
    have ho:=P.one s
    have e1:=turn_N (x:=x) hL (told:=told) (V:=V) (s:=s) (a:=a) (zg (yc _ _) h3) (zg (z5 hV (z5 (yc _ (c s)) (z5 h1 (w9 _ _)))) h3) fun r h=>P.short s r h
    have hc:tru1 (runE t0 condN (envN rows x told (V++[s]) a))=.ok true:=by
     have z:runE t0 condN (envN rows x told (V++[s]) a)=.ok (.bl (!((V++[s]).map D.int).isEmpty),.sto []):=aV (k:=.sto [3]) (k':=.sto []) rfl rfl (ne_nil _)
     rw [z,y3]
     simp [tru1,truD]
    rw [whl_t hc e1,qe,List.reverse_singleton,List.singleton_append,wx]
    cases e:L s with
    | none =>
     obtain ⟨a2,e2⟩:=ih k (told++[s]) V (some (.int s,true)) (sj (z5 (yz ho _) h1)) (wf h2) (by rw [zl,xx,ql,p9 1 n]; exact h3)
     refine ⟨a2, ?_⟩
     rw [P.bare s e,← wy]
     exact e2
    | some r =>
     have hd:=P.dec s r e
     obtain ⟨a2,e2⟩:=ih k told (V++r.reverse) (some (.int s,true)) (by rw [sum_append,iR]; exact sj (z5 (yz hd _) h1)) (wf h2) (xn h3)
     refine ⟨a2, ?_⟩
     rw [P.row s r e,← wv]
     rw [qe,uy] at e2
     exact e2
theorem bare_eq (P:Opn L F c) (hL:Rows rows L) {x:List Int} (hc:(x.map c).sum≤700000):gE [.dK (rows.map rowK),.lst (x.map D.int)]=.ok (.lst ((x.flatMap F).map D.int)):=by
 refine dA rfl (by decide) ?_
 have s1:runS t0 (cZ.body.getD 0 .pass) [some (.dK (rows.map rowK),false),some (.lst (x.map D.int),false),none,none,none]=.nx [some (.dK (rows.map rowK),false),some (.lst (x.map D.int),false),some (.lst [],true),none,none]:=rfl
 have s2:runS t0 (cZ.body.getD 1 .pass) [some (.dK (rows.map rowK),false),some (.lst (x.map D.int),false),some (.lst [],true),none,none]=.nx (envN rows (.lst (x.map D.int)) [] x.reverse none):=aA (run_revL (r:=x) (k:=.old) rfl) rfl
 obtain ⟨a,e⟩:=loop_N (x:=.lst (x.map D.int)) P hL 700000 1000000 [] x.reverse none (by rw [iR]; exact hc) (by decide) (by decide)
 rw [wq,uy] at e
 have s3:runS t0 (cZ.body.getD 2 .pass) (envN rows (.lst (x.map D.int)) [] x.reverse none)=.nx (envN rows (.lst (x.map D.int)) (x.flatMap F) [] a):=iZ.trans e
 exact (ae s1).trans ((ae s2).trans ((ae s3).trans (dL (is:=[2]) (aD (bB rfl rfl)))))
end
end K24
namespace K24
open Vi K12 K21 K22
open PySem (Str)
theorem cut_at {α:Type} (l:List α) (a k:Nat) (h:a≤l.length):cutD l (some (a:Int)) (some ((a:Int)+(k:Int)))=(l.drop a).take k:=by
 unfold cutD cutAt
 have h1:¬ (a:Int) < 0:=u9.mpr (y8 a)
 have h2:¬ (a:Int)+(k:Int) < 0:=u9.mpr (y8 (a+k))
 simp only [h1,h2,if_false]
 rw [xq,show ((a:Int)+(k:Int)).toNat=a+k from rfl,vp h]
 by_cases hk:a+k≤l.length
 ·rw [vp hk,tu]
 ·have hk:=xn (Nat.lt_of_not_le hk)
  rw [ri hk,sm (by rw [ui]; exact zf _),sm (by rw [ui]; exact Nat.sub_le_iff_le_add'.mpr hk)]
inductive Deed (F:Int→List Int) (here:List Int) (d:D):Prop
 | mk (a m:Nat) (new:List Int) (e:d=.tup [.int (a:Int),.int (m:Int),.lst (new.map D.int)]) (hm:a+m≤here.length) (hn:new.length≤m+1) (hf:(here.take a++new++here.drop (a+m)).flatMap F=here.flatMap F)
theorem flat_swap {F:Int→List Int} {here new:List Int} {a m:Nat} (h:((here.drop a).take m).flatMap F=new.flatMap F):(here.take a++new++here.drop (a+m)).flatMap F=here.flatMap F:=by
 have e:here=here.take a++((here.drop a).take m++here.drop (a+m)):=by
  rw [← List.drop_drop,List.take_append_drop,List.take_append_drop]
 have e2:here.flatMap F=(here.take a++((here.drop a).take m++here.drop (a+m))).flatMap F:=by rw [← e]
 rw [e2,wy,wv,wv,wv,wv,h]
noncomputable def oI (o:Option Int):O:=o.map fun i=>(.int i,true)
noncomputable abbrev envG (rows:List (Int × List Int)) (here:List Int) (L:List D) (a b:O):Vi.Env:=[some (.dK (rows.map rowK),false),some (.lst (here.map D.int),false),some (.lst L,true),a,b]
noncomputable abbrev bodyG:List S:=match dh.body.getD 1 .pass with
 | .for _ _ _ _ b=>b
 | _=>[]
noncomputable abbrev bodyI:List S:=match bodyG.getD 1 .pass with
 | .for _ _ _ _ b=>b
 | _=>[]
section
variable {L:Int→Option (List Int)} {F:Int→List Int} {c:Int→Nat} {rows:List (Int × List Int)} {here:List Int}
theorem turn_I (P:Opn L F c) (hL:Rows rows L) {ds:List D} {a:Nat} {s:Int} {r:List Int} {b:O} (e:L s=some r) (ha:a≤here.length) (hne:r≠[]) (hd:∀ d∈ds,Deed F here d) (hl:ds.length < 900000) :
  ∃ ds',bC [4] true (fun ρ1=>al t0 bodyI ρ1) (envG rows here ds (some (.int (a:Int),true)) b) (.int s)=.nx (envG rows here ds' (some (.int (a:Int),true)) (some (.int s,true)))∧(∀ d∈ds',Deed F here d)∧ds'.length≤ds.length+1:=by
 let ρ:Vi.Env:=envG rows here ds (some (.int (a:Int),true)) (some (.int s,true))
 have v0:runE t0 (.var 0) ρ=.ok (.dK (rows.map rowK),.old):=rfl
 have v1:runE t0 (.var 1) ρ=.ok (.lst (here.map D.int),.old):=rfl
 have v3:runE t0 (.var 3) ρ=.ok (.int (a:Int),.sto []):=rfl
 have v4:runE t0 (.var 4) ρ=.ok (.int s,.sto []):=rfl
 have dx:=dix_row hL e v0 v4
 have ln:runE t0 (.bi .len [(.dix (.var 0) (.var 4))]) ρ=.ok (.int (r.length:Int),.sto []):=by
  have:=aK dx (b:=.len) (z:=.int ((r.map D.int).length:Int)) (by rw [biD_2])
  rw [this,z7]
  rfl
 have sl:=gx v1 v3 (ax v3 ln (o:=.add) (z:=.int ((a:Int)+(r.length:Int))) (by rw [opD_1])) (p:=some (a:Int)) (q:=some ((a:Int)+(r.length:Int))) rfl rfl
 rw [cut_at here a r.length ha] at sl
 have tp:=aK sl (b:=.tuple) (z:=.tup (((here.drop a).take r.length).map D.int)) (by rw [gY,if_pos (aX _)])
 have cd:runE t0 (.cmp .eq (.bi .tuple [(.sl (.var 1) (.var 3) (.bin .add (.var 3) (.bi .len [(.dix (.var 0) (.var 4))])))]) (.dix (.var 0) (.var 4))) ρ=.ok (.bl (decide ((here.drop a).take r.length=r)),.sto []):=aV tp dx (by rw [iE,eqD_tup])
 show ∃ ds',al t0 bodyI ρ=_∧_
 by_cases h:(here.drop a).take r.length=r
 ·rw [decide_eq_true h] at cd
  have ap:runS t0 (.app 2 (.tup [(.var 3),(.bi .len [(.dix (.var 0) (.var 4))]),(.lst [(.var 4)])])) ρ=.nx (envG rows here (ds++[.tup [.int (a:Int),.int (r.length:Int),.lst ([s].map D.int)]]) (some (.int (a:Int),true)) (some (.int s,true))):=gz (l:=ds) (d:=.tup [.int (a:Int),.int (r.length:Int),.lst ([s].map D.int)]) (i4 (k:=.sto []) (ak v3 (ak ln (ak (run_lst (as:=[(.var 4)]) (ak v4 aJ) (show 1≤1000000 by decide)) aJ))) (show 3≤1000000 by decide)) rfl (zm hl (by decide))
  refine ⟨ds++[.tup [.int (a:Int),.int (r.length:Int),.lst ([s].map D.int)]],av ((bu cd).trans (av ap)),fun d hdm=>?_,by rw [zl]; exact zf _⟩
  rcases y2.mp hdm with z | z
  ·exact hd d z
  ·rw [ye.mp z]
   have hlen:a+r.length≤here.length:=by
    have:=congrArg vg h
    rw [tz,ui] at this
    exact Nat.add_le_of_le_sub' ha (z5 (xy this.symm) (pv _ _))
   refine ⟨a,r.length,[s],rfl,hlen,by rw [xx]; exact w9 _ _,flat_swap ?_⟩
   rw [h,List.flatMap_singleton,P.row s r e]
 ·rw [decide_eq_false h] at cd
  exact ⟨ds,av ((aR cd).trans bx),hd,rf _⟩
inductive InG (rows:List (Int × List Int)) (here:List Int) (F:Int→List Int) (a:O) (n:Nat) (ρ:Vi.Env):Prop
 | mk (ds:List D) (b:Option Int) (e:ρ=envG rows here ds a (oI b)) (hd:∀ d∈ds,Deed F here d) (hl:ds.length≤n)
theorem keys_I {M:Tab} {ρ:Env} {k:Kd} {a:E} (h:runE M a ρ=.ok (.dK (rows.map rowK),k)):runI M .keys [a] ρ=.ok (rows.map fun p=>D.int p.1,k):=by
 rw [rI_1,h]
 simp only [R.ok_bind,eV,gj,R.pure_eq,ym]
 rfl
theorem inner_G (P:Opn L F c) (hL:Rows rows L) (hin:∀ s r,(s,r)∈rows→L s=some r∧r≠[]) (hr:rows.length≤100) {a:Nat} (ha:a≤here.length) {n:Nat} (hn:n≤800000) {ρ:Vi.Env} (h:InG rows here F (some (.int (a:Int),true)) n ρ) :
  ∃ ρ',runS t0 (bodyG.getD 1 .pass) ρ=.nx ρ'∧InG rows here F (some (.int (a:Int),true)) (n+rows.length) ρ':=by
 refine zz fun P_ k_=>?_
 obtain ⟨ds,b,rfl,hd,hl⟩:=h
 obtain ⟨ρ',e,q⟩:=cx (f:=bC [4] true fun ρ1=>al t0 bodyI ρ1) (fun (p:List (Int × List Int)) ρ=>InG rows here F (some (.int (a:Int),true)) (n+p.length) ρ) (fun p=>D.int p.1) rows [] (envG rows here ds (some (.int (a:Int),true)) (oI b)) ⟨ds,b,rfl,hd,hl⟩ fun p x q ρ hp h=>by
  obtain ⟨ds1,b1,rfl,hd1,hl1⟩:=h
  have hx:(x.1,x.2)∈rows:=by
   rw [wq] at hp
   rw [hp]
   exact zd _ za
  have hpl:p.length≤rows.length:=by
   rw [wq] at hp
   rw [hp,zl]
   exact yc _ _
  obtain ⟨h1,h2⟩:=hin x.1 x.2 hx
  obtain ⟨ds2,e2,hd2,hl2⟩:=turn_I P hL (b:=oI b1) h1 ha h2 hd1 (zg (z5 hl1 (wa hn (z5 hpl hr))) (by decide))
  exact ⟨_,e2,ds2,some x.1,rfl,hd2,by rw [zl]; exact z5 hl2 (xo hl1)⟩
 rw [wq] at q
 obtain ⟨ds2,b2,rfl,hd2,hl2⟩:=q
 refine k_ ?_
 refine ⟨envG rows here ds2 (some (.int (a:Int),true)) (oI b2), ?_,ds2,b2,rfl,hd2,hl2⟩
 have hI:runI t0 .keys [(.var 0)] (envG rows here ds (some (.int (a:Int),true)) (oI b))=.ok (rows.map fun p=>D.int p.1,.old):=keys_I rfl
 show runS t0 (.for [4] true .keys [(.var 0)] bodyI) _=_
 rw [cE hI rfl,show ao (envG rows here ds (some (.int (a:Int),true)) (oI b)) .old=envG rows here ds (some (.int (a:Int),true)) (oI b) from rfl,e]
 cases b2 <;> rfl
theorem turn_G (P:Opn L F c) (hL:Rows rows L) (hin:∀ s r,(s,r)∈rows→L s=some r∧r≠[]) (hr:rows.length≤100) {a:Nat} (ha:a < here.length) {n:Nat} (hn:n≤700000) {a0:O} {ρ:Vi.Env} (h:InG rows here F a0 n ρ) :
  ∃ ρ',bC [3] true (fun ρ1=>al t0 bodyG ρ1) ρ (.int (a:Int))=.nx ρ'∧InG rows here F (some (.int (a:Int),true)) (n+1+rows.length) ρ':=by
 refine zz fun P_ k_=>?_
 obtain ⟨ds,b,rfl,hd,hl⟩:=h
 refine k_ ?_
 let ρ:Vi.Env:=envG rows here ds (some (.int (a:Int),true)) (oI b)
 show ∃ ρ',al t0 bodyG ρ=.nx ρ'∧_
 have v0:runE t0 (.var 0) ρ=.ok (.dK (rows.map rowK),.old):=rfl
 have v1:runE t0 (.var 1) ρ=.ok (.lst (here.map D.int),.old):=rfl
 have v3:runE t0 (.var 3) ρ=.ok (.int (a:Int),.sto []):=rfl
 have hg:here[a]?=some here[a]:=z9 ha
 have vx:=run_ixI v1 v3 hg
 have c1:=mem_row hL vx v0
 have first:∃ ρ',runS t0 (bodyG.getD 0 .pass) ρ=.nx ρ'∧InG rows here F (some (.int (a:Int),true)) (n+1) ρ':=by
  cases e:L here[a] with
  | none =>
   rw [e] at c1
   exact ⟨ρ,(aR c1).trans bx,ds,b,rfl,hd,we hl⟩
  | some r =>
   rw [e] at c1
   have dx:=dix_row hL e v0 vx
   have ls:=aK dx (b:=.list) (z:=.lst (r.map D.int)) (by rw [biD_20,if_pos (aX _)])
   rw [jm (aX _)] at ls
   have ap:runS t0 (.app 2 (.tup [(.var 3),(.int 1),(.bi .list [(.dix (.var 0) (.ix (.var 1) (.var 3)))])])) ρ=.nx (envG rows here (ds++[.tup [.int (a:Int),.int ((1:Nat):Int),.lst (r.map D.int)]]) (some (.int (a:Int),true)) (oI b)) :=
    gz (l:=ds) (i4 (k:=.sto []) (ak v3 (ak (show runE t0 (.int 1) ρ=.ok (.int ((1:Nat):Int),.sto []) from rfl) (ak ls aJ))) (show 3≤1000000 by decide)) rfl (zg (z5 hl hn) (by decide))
   refine ⟨_,(bu c1).trans (av ap),_,b,rfl,fun d hdm=>?_,by rw [zl]; exact xo hl⟩
   rcases y2.mp hdm with z | z
   ·exact hd d z
   ·rw [ye.mp z]
    refine ⟨a,1,r,rfl,ha,P.short _ r e,flat_swap ?_⟩
    rw [vq ha,qd,pb,List.flatMap_singleton,P.row _ r e]
 refine zz fun P_ k_=>?_
 obtain ⟨ρ1,e1,q1⟩:=first
 obtain ⟨ρ2,e2,q2⟩:=inner_G P hL hin hr (xn ha) (z5 (xo hn) (by decide)) q1
 refine k_ ?_
 exact ⟨ρ2,(ae e1).trans (av e2),q2⟩
inductive DeedsOk (rows:List (Int × List Int)) (here:List Int) (F:Int→List Int):Prop
 | mk (ds:List D) (e:fo [.dK (rows.map rowK),.lst (here.map D.int)]=.ok (.lst ds)) (hd:∀ d∈ds,Deed F here d)
theorem deeds_ok (P:Opn L F c) (hL:Rows rows L) (hin:∀ s r,(s,r)∈rows→L s=some r∧r≠[]) (hr:rows.length≤100) (hh:here.length≤1000):DeedsOk rows here F:=by
 refine zz fun P_ k_=>?_
 obtain ⟨ρ',e,q⟩:=cx (f:=bC [3] true fun ρ1=>al t0 bodyG ρ1) (fun (p:List Nat) ρ=>∃ a0:Option Int,InG rows here F (oI a0) (p.length * 101) ρ) (fun i=>D.int (i:Int)) (vw here.length) [] (envG rows here [] none none) ⟨none,[],none,rfl,fun _ h=>(nomatch h),zf _⟩ fun p x q ρ hp h=>by
  obtain ⟨a0,h⟩:=h
  rw [wq] at hp
  have hx:x < here.length:=tw.mp (by rw [hp]; exact zd _ za)
  have hpl:p.length≤here.length:=by
   have:=congrArg vg hp
   rw [List.length_range,zl] at this
   rw [this]
   exact yc _ _
  obtain ⟨ρ2,e2,ds,b,e3,hd,hl⟩:=turn_G P hL hin hr hx (z5 (Nat.mul_le_mul_right 101 (z5 hpl hh)) (by decide)) h
  exact ⟨ρ2,e2,some (x:Int),ds,b,e3,hd,by rw [zl,xx,Nat.succ_mul]; exact z5 hl (by rw [ql]; exact yz (yz hr 1) _)⟩
 rw [wq] at q
 obtain ⟨a0,ds,b,rfl,hd,_⟩:=q
 refine k_ ?_
 refine ⟨ds,dA rfl (by decide) ?_,hd⟩
 have s1:runS t0 (dh.body.getD 0 .pass) [some (.dK (rows.map rowK),false),some (.lst (here.map D.int),false),none,none,none]=.nx (envG rows here [] none none):=rfl
 have hI:runI t0 .range [(.bi .len [(.var 1)])] (envG rows here [] none none)=.ok (nl (vw here.length),.sto []) :=
  run_items (d:=.int (here.length:Int)) (by
   have:=aK (M:=t0) (a:=(.var 1)) (ρ:=envG rows here [] none none) (k:=.old) rfl (b:=.len) (z:=.int ((here.map D.int).length:Int)) (by rw [biD_1])
   rw [this,z7]) (range_items here.length (z5 hh (by decide))) rfl
 have s2:runS t0 (dh.body.getD 1 .pass) (envG rows here [] none none)=.nx (envG rows here ds (oI a0) (oI b)):=by
  show runS t0 (.for [3] true .range [(.bi .len [(.var 1)])] bodyG) _=_
  rw [cE hI rfl,show ao (envG rows here [] none none) (.sto [])=envG rows here [] none none from rfl]
  unfold nl
  rw [e]
  cases a0 <;> cases b <;> rfl
 exact (ae s1).trans ((ae s2).trans (dL (is:=[2]) (aD (bB rfl rfl))))
end
end K24
namespace K24
open Vi K12 K21 K22
open PySem (Str)
theorem look_in {rows:List (Int × List Int)} (hn:(rows.map (·.1)).Nodup) {s:Int} {r:List Int} (h:(s,r)∈rows):look rows s=some r:=by
 cases e:look rows s with
 | none=>exact absurd (yw.mpr ⟨_,h,rfl⟩) (gK e)
 | some q=>rw [row_one hn h (cK e)]
section
variable {M:Tab} {ρ:Env} {rows:List (Int × List Int)}
noncomputable abbrev inQ (ρ:Env) (s:Int):Env:=(inComp ρ [6]).set 6 (some (.int s,true))
theorem bind_Q (h6:6 < ρ.length) (s:Int):cn (inComp ρ [6]) [6] true (.int s) .old=some (inQ ρ s):=by
 have hlen:6 < (inComp ρ [6]).length:=by simpa [inComp] using h6
 show aN _ 6 _ (.sto [])=_
 unfold aN
 rw [if_pos hlen]
 rfl
theorem v6_Q (h6:6 < ρ.length) (s:Int):runE M (.var 6) (inQ ρ s)=.ok (.int s,.sto []):=by
 have hlen:6 < (inComp ρ [6]).length:=by simpa [inComp] using h6
 rw [bF]
 unfold getV
 rw [vn hlen]
 rfl
theorem v5_Q (h5:ρ[5]?=some (some (.dK (rows.map rowK),true))) (s:Int):runE M (.var 5) (inQ ρ s)=.ok (.dK (rows.map rowK),.old):=by
 have e:(inQ ρ s)[5]?=some (some (.dK (rows.map rowK),false)):=by
  rw [yu (by decide)]
  show ((ρ.map _).set 6 none)[5]?=_
  rw [yu (by decide),yn,h5]
  rfl
 rw [bF]
 unfold getV
 rw [e]
 rfl
theorem comp_prs (hn:(rows.map (·.1)).Nodup) (hl:rows.length≤1000) (h5:ρ[5]?=some (some (.dK (rows.map rowK),true))) (h6:6 < ρ.length) :
  runE M (.comp (.tup [(.var 6),(.dix (.var 5) (.var 6))]) [6] true .keys [(.var 5)] (.bl true)) ρ=.ok (.lst (rows.map rowD),.sto []):=by
 have hI:runI M .keys [(.var 5)] ρ=.ok (rows.map fun p=>D.int p.1,.sto [5]):=keys_I (aD (bB h5 rfl))
 refine bV (b:=true) hI (by rw [z7]; exact z5 hl (by decide)) (bU (fun p:Int × List Int=>D.int p.1) rowD rows fun p hp=>?_)
 have e:=d9 (v5_Q (M:=M) h5 p.1) (v6_Q h6 p.1) (d:=.tup (p.2.map D.int)) (by show some (valD (rows.map rowK) (zu p.1))=_; rw [fh hn hp]) (bA _)
 exact cD (bind_Q h6 p.1) (by rw [fT]; rfl) (i4 (k:=.sto []) (ak (v6_Q h6 p.1) (ak e aJ)) (show 2≤1000000 by decide))
theorem comp_two (hn:(rows.map (·.1)).Nodup) (hl:rows.length≤1000) (h5:ρ[5]?=some (some (.dK (rows.map rowK),true))) (h6:6 < ρ.length) :
  runE M (.comp (.var 6) [6] true .keys [(.var 5)] (.cmp .eq (.bi .len [(.dix (.var 5) (.var 6))]) (.int 2))) ρ=.ok (.lst ((twos rows).map D.int),.sto []):=by
 have hI:runI M .keys [(.var 5)] ρ=.ok (rows.map fun p=>D.int p.1,.sto [5]):=keys_I (aD (bB h5 rfl))
 unfold twos
 rw [ym]
 refine bV (b:=true) hI (by rw [z7]; exact z5 hl (by decide)) (fL (fun p:Int × List Int=>D.int p.1) (fun p=>D.int p.1) (fun p=>decide (p.2.length=2)) rows fun p hp=>?_)
 have e:=d9 (v5_Q (M:=M) h5 p.1) (v6_Q h6 p.1) (d:=.tup (p.2.map D.int)) (by show some (valD (rows.map rowK) (zu p.1))=_; rw [fh hn hp]) (bA _)
 have ln:=aK e (b:=.len) (z:=.int ((p.2.map D.int).length:Int)) (by rw [biD_2])
 have cd:=aV ln (show runE M (.int 2) (inQ ρ p.1)=.ok (.int 2,.sto []) by rw [ie]) (o:=.eq) (t:=decide (p.2.length=2)) (by
  rw [iE,z7]
  show R.ok ((p.2.length:Int) == 2)=_
  congr 1
  by_cases h:p.2.length=2
  ·rw [h]; rfl
  ·rw [decide_eq_false h]
   exact beq_no (fun z=>h (qm z)))
 have c':tru1 (runE M (.cmp .eq (.bi .len [(.dix (.var 5) (.var 6))]) (.int 2)) (inQ ρ p.1))=.ok (decide (p.2.length=2)):=by rw [cd]; rfl
 cases hp':decide (p.2.length=2) with
 | false =>
  rw [hp'] at c'
  rw [if_neg y9]
  exact turnC_f (bind_Q h6 p.1) c'
 | true =>
  rw [hp'] at c'
  rw [if_pos rfl]
  exact cD (bind_Q h6 p.1) c' (v6_Q h6 p.1)
end
noncomputable abbrev envL (ns:List Int) (h w:Int) (P T:O) (B s6 o7 o8 o9 a10 a11 a15:O):Vi.Env:=[some (.lst (ns.map D.int),false),some (.int h,true),some (.int w,true),P,T,B,s6,o7,o8,o9,a10,a11,none,none,none,a15]
noncomputable abbrev bodyB:List S:=[.put 5 (.var 6) (.bi .tuple [(.bi .list [(.rev (.dix (.ix (.var 3) (.int 2)) (.var 6)))])])]
theorem bk_app (p:List (Int × List Int)) (x:Int × List Int):bk (p++[x])=bk p++[(x.1,x.2.reverse)]:=by
 unfold bk
 rw [y3]
 rfl
section
variable {ns:List Int} {h w:Int} {T:D} {pool:List Int} {marks:List (Int × Int)} {rows:List (Int × List Int)} {shuts:List Int}
theorem behind_ok (hn:(rows.map (·.1)).Nodup) (hl:rows.length≤1000):∃ o:Option Int,runS t28 (d3.body.getD 5 .pass) (envL ns h w (some (bo pool marks rows shuts,true)) (some (T,true)) (some (.dK [],true)) none none none none none none none) =
  .nx (envL ns h w (some (bo pool marks rows shuts,true)) (some (T,true)) (some (.dK ((bk rows).map rowK),true)) (oI o) none none none none none none):=by
 let ρ:List (Int × List Int)→Option Int→Bool→Vi.Env:=fun p o b=>envL ns h w (some (bo pool marks rows shuts,b)) (some (T,true)) (some (.dK ((bk p).map rowK),true)) (oI o) none none none none none none
 have vd:∀ {p:List (Int × List Int)} {o:Option Int},runE t28 (.ix (.var 3) (.int 2)) (ρ p o false)=.ok (.dK (rows.map rowK),.old):=fun {p o}=>rfl
 refine zz fun P_ k_=>?_
 obtain ⟨ρ',e,o,q⟩:=cx (f:=bC [6] true fun ρ1=>al t28 bodyB ρ1) (fun (p:List (Int × List Int)) r=>∃ o,r=ρ p o false) (fun p=>D.int p.1) rows [] (ρ [] none false) ⟨none,rfl⟩ fun p x q r hp hr=>by
  obtain ⟨o,rfl⟩:=hr
  rw [wq] at hp
  have hx:(x.1,x.2)∈rows:=by
   rw [hp]
   exact zd _ za
  have hnp:x.1∉(bk p).map (·.1):=by
   rw [jI]
   intro z
   rw [hp,y3,zc] at hn
   exact (x4.mp hn).2.2 _ z _ za rfl
  have hpl:p.length≤rows.length:=by
   rw [hp,zl]
   exact yc _ _
  refine ⟨ρ (p++[x]) (some x.1) false, ?_,some x.1,rfl⟩
  show al t28 bodyB (ρ p (some x.1) false)=_
  have v6:runE t28 (.var 6) (ρ p (some x.1) false)=.ok (.int x.1,.sto []):=rfl
  have dx:=d9 (vd (p:=p) (o:=some x.1)) v6 (d:=.tup (x.2.map D.int)) (by show some (valD (rows.map rowK) (zu x.1))=_; rw [fh hn hx]) (bA _)
  have tv:=aK (run_revT dx) (b:=.tuple) (z:=.tup (x.2.reverse.map D.int)) (by rw [gY,if_pos (aX _)])
  refine av ((fj tv v6 (d:=.dK ((bk p).map rowK)) (d':=.dK ((bk (p++[x])).map rowK)) rfl (bA _) ?_).trans rfl)
  show (if ((bk p).map rowK).length < 1000000 then some (D.dK (putD ((bk p).map rowK) (zu x.1:Key) (.tup (x.2.reverse.map D.int)))) else none)=_
  rw [put_row hnp,bk_app,if_pos]
  rw [z7,show (bk p).length=p.length from z7 _]
  exact zg (z5 hpl hl) (by decide)
 refine k_ ?_
 rw [wq] at q
 subst q
 refine ⟨o, ?_⟩
 have hI:runI t28 .keys [(.ix (.var 3) (.int 2))] (ρ [] none false)=.ok (rows.map fun p=>D.int p.1,.old):=keys_I vd
 have s1:runS t28 (.for [6] true .keys [(.ix (.var 3) (.int 2))] bodyB) (ρ [] none false)=.nx (ρ rows o false):=by
  rw [cE hI rfl,show ao (ρ [] none false) .old=ρ [] none false from rfl,e]
  cases o <;> kernel_rfl
 show runS t28 (.lnd 3 [.for [6] true .keys [(.ix (.var 3) (.int 2))] bodyB]) (ρ [] none true)=.nx (ρ rows o true)
 rw [rS_lnd,show ao (ρ [] none true) (.sto [3])=ρ [] none false by kernel_rfl,av s1]
 cases o <;> kernel_rfl
end
inductive M7 (ns:List Int) (h w:Int):Prop
 | mk (pool:List Int) (marks:List (Int × Int)) (rows:List (Int × List Int)) (shuts:List Int) (sizes:List (Key × D)) (sz:Int→Int) (idx:Int→Nat) (G:Good pool marks rows shuts sizes sz idx) (hp:pool.length≤60)
  (marks':List (Int × Int)) (rows':List (Int × List Int)) (shuts':List Int) (found found2:List (List Key × D)) (hrev:rows'=rows∨rows'=rows.reverse) (o:Option Int) (x:List Int) (hx:x.length≤6)
  (e:al t28 (d3.body.take 8) (some (.lst (ns.map D.int),false)::yt 15 none)=.nx (envL ns h w (some (bo pool marks rows shuts,true)) (some (tabD marks' rows' shuts' found,true)) (some (.dK ((bk rows).map rowK),true)) (oI o) (some (tabD [] (bk rows) (twos (bk rows)) found2,true)) (some (.lst (x.map D.int),true)) none none none none))
theorem begin_ok (ns:List Int):M7 ns (ns.getD 0 0) (ns.getD 1 0 % 15):=by
 let h:Int:=ns.getD 0 0
 let m:Int:=ns.getD 1 0
 have n1:∀ {ρ:Env},ρ[0]?=some (some (.lst (ns.map D.int),false))→runE t28 (.call 10 [(.var 0),(.int 1)]) ρ=.ok (.int m,.sto []):=fun {ρ} e =>
  aE (f:=10) (ak (run_varL e) (ak (show runE t28 (.int 1) ρ=.ok (.int ((1:Nat):Int),.sto []) by rw [ie]; rfl) aJ)) (nth_eq ns 1)
 let w:Nat:=(m % 15).toNat
 have hw0:=ua m (show (15:Int)≠0 by decide)
 have hw:m % 15=(w:Int):=(tm hw0).symm
 have hw1:w < 15:=(Int.toNat_lt hw0).mpr (vz m (show (0:Int) < 15 by decide))
 let ρ0:O→O→O→O→Vi.Env:=fun a b p t=>[some (.lst (ns.map D.int),false),a,b,p,t,none,none,none,none,none,none,none,none,none,none,none]
 have s1:runS t28 (d3.body.getD 0 .pass) (ρ0 none none none none)=.nx (ρ0 (some (.int h,true)) none none none):=aA (aE (f:=10) (ds:=[.lst (ns.map D.int),.int ((0:Nat):Int)]) rfl (nth_eq ns 0)) rfl
 have s2:runS t28 (d3.body.getD 1 .pass) (ρ0 (some (.int h,true)) none none none)=.nx (ρ0 (some (.int h,true)) (some (.int w,true)) none none):=aA (k:=.sto []) (ax (n1 rfl) (show runE t28 (.int 15) _=.ok (.int 15,.sto []) by rw [ie]) (o:=.mod) (z:=.int (w:Int)) (by rw [opD_5,if_pos (by decide),hw])) rfl
 have lc:=cut_len ns 2 (2+w)
 refine zz fun P_ k_=>?_
 obtain ⟨marks,rows,shuts,sizes,sz,idx,e2,G⟩:=parts_ok (cutD ns (some ((2:Nat):Int)) (some ((2+w:Nat):Int))) h (z5 lc (by rw [tu]; exact xn (vb hw1 (by decide))))
 refine k_ ?_
 have hp1:(fU h (cutD ns (some ((2:Nat):Int)) (some ((2+w:Nat):Int))).length).length≤60:=by rw [pool_len]; exact z5 lc (by rw [tu]; exact xn (vb hw1 (by decide)))
 generalize fU h (cutD ns (some ((2:Nat):Int)) (some ((2+w:Nat):Int))).length=pool at *
 have ad:∀ {ρ:Env} (n:Nat),ρ[2]?=some (some (.int w,true))→runE t28 (.bin .add (.int (n:Int)) (.var 2)) ρ=.ok (.int ((n+w:Nat):Int),.sto []):=fun {ρ} n e =>
  ax (x:=.int (n:Int)) (k:=.sto []) (by rw [ie]) (aD (jx e rfl)) (z:=.int ((n+w:Nat):Int)) (by rw [opD_1]; rfl)
 have s3:runS t28 (d3.body.getD 2 .pass) (ρ0 (some (.int h,true)) (some (.int w,true)) none none)=.nx (ρ0 (some (.int h,true)) (some (.int w,true)) (some (bo pool marks rows shuts,true)) none) :=
  aA (aE (f:=15) (ak (gx (l:=ns) (k:=.old) (x:=.int ((2:Nat):Int)) (k1:=.sto []) rfl rfl (ad 2 rfl) rfl rfl) (ak (show runE t28 (.var 1) _=.ok (.int h,.sto []) from rfl) aJ)) e2) rfl
 refine zz fun P_ k_=>?_
 obtain ⟨marks',rows',shuts',found,e4,hrev⟩:=table_fn (pool:=pool) (G.tab hp1) (h / 7)
 have s4:runS t28 (d3.body.getD 3 .pass) (ρ0 (some (.int h,true)) (some (.int w,true)) (some (bo pool marks rows shuts,true)) none)=.nx (ρ0 (some (.int h,true)) (some (.int w,true)) (some (bo pool marks rows shuts,true)) (some (tabD marks' rows' shuts' found,true))) :=
  aA (aE (f:=16) (ak (aD (bB (i:=3) rfl rfl)) (ak (show runE t28 (.bin .fdiv (.var 1) (.int 7)) _=.ok (.int (h / 7),.sto []) from rfl) aJ)) e4) rfl
 have s5:runS t28 (d3.body.getD 4 .pass) (ρ0 (some (.int h,true)) (some (.int w,true)) (some (bo pool marks rows shuts,true)) (some (tabD marks' rows' shuts' found,true)))=.nx (envL ns h w (some (bo pool marks rows shuts,true)) (some (tabD marks' rows' shuts' found,true)) (some (.dK [],true)) none none none none none none none):=rfl
 have nr:=(G.tab hp1).nr
 have rl:rows.length≤60:=z5 (z5 (w9 _ _) G.lm) hp1
 obtain ⟨o,s6⟩:=behind_ok (ns:=ns) (h:=h) (w:=w) (T:=tabD marks' rows' shuts' found) (pool:=pool) (marks:=marks) (shuts:=shuts) nr (z5 rl (by decide))
 have T2:=(bk_good G).tab hp1
 obtain ⟨found2,e7,_⟩:=table_ok T2
 refine k_ ?_
 have bl:(bk rows).length≤1000:=z5 (xy (z7 _)) (z5 rl (by decide))
 let ρ7:O→O→Vi.Env:=fun a b=>envL ns h w (some (bo pool marks rows shuts,true)) (some (tabD marks' rows' shuts' found,true)) (some (.dK ((bk rows).map rowK),true)) (oI o) a b none none none none
 have s7:runS t28 (d3.body.getD 6 .pass) (ρ7 none none)=.nx (ρ7 (some (tabD [] (bk rows) (twos (bk rows)) found2,true)) none) :=
  aA (gf (f:=0) (ak (x:=.lst (([]:List (Int × Int)).map bW)) (k:=.sto []) rfl (ak (comp_prs T2.nr bl rfl (show 6 < 16 by decide)) (ak (comp_two T2.nr bl rfl (show 6 < 16 by decide)) aJ))) e7) rfl
 have lx:=cut_len ns (2+w) (8+w)
 obtain ⟨x,ex,hx⟩:=text_eq (cutD ns (some ((2+w:Nat):Int)) (some ((8+w:Nat):Int))) pool 69623 (by decide) (z5 lx (by rw [Nat.add_sub_add_right]; decide))
 have s8:runS t28 (d3.body.getD 7 .pass) (ρ7 (some (tabD [] (bk rows) (twos (bk rows)) found2,true)) none)=.nx (ρ7 (some (tabD [] (bk rows) (twos (bk rows)) found2,true)) (some (.lst (x.map D.int),true))) :=
  aA (aE (f:=22) (ak (gx (l:=ns) (k:=.old) rfl (ad 2 rfl) (ad 8 rfl) rfl rfl) (ak (x:=.lst (pool.map D.int)) (k:=.bor) rfl (ak (x:=.int 69623) (k:=.sto []) rfl aJ))) ex) rfl
 show M7 ns h (m % 15)
 rw [hw]
 exact ⟨pool,marks,rows,shuts,sizes,sz,idx,G,hp1,marks',rows',shuts',found,found2,hrev,o,x,by rw [hx]; exact z5 lx (by rw [Nat.add_sub_add_right]; decide),
  (ae s1).trans ((ae s2).trans ((ae s3).trans ((ae s4).trans ((ae s5).trans ((ae s6).trans ((ae s7).trans (av s8)))))))⟩
end K24
namespace K24
open Vi K12 K21 K22
open PySem (Str)
theorem cut_fst {α:Type} (l:List α) (i:Nat) (h:i≤l.length):cutD l none (some (i:Int))=l.take i:=by
 unfold cutD cutAt
 simp only [u9.mpr (y8 i),if_false,xq,List.drop_zero,Nat.sub_zero]
 rw [vp h]
theorem cut_snd {α:Type} (l:List α) (i:Nat) (h:i≤l.length):cutD l (some (i:Int)) none=l.drop i:=by
 unfold cutD cutAt
 simp only [u9.mpr (y8 i),if_false,xq]
 rw [vp h,sm (by rw [ui]; exact zf _)]
theorem run_wth {M:Tab} {is:List Nat} {j:Nat} {e:E} {b:List S} {ρ ρl ρ2 ρ3 ρ':Env} {d:D} (hl:ao ρ (.sto [j])=ρl) (h:runE M e ρl=.ok (d,.old)) (hb:cn ρl is false d .old=some ρ2) (hr:al M b ρ2=.nx ρ3) (he:rest ρ ρl ρ3 (is++asgs b)=ρ'):runS M (.wth is j e b) ρ=.nx ρ':=by
 subst hl
 rw [rS_wth,h]
 simp only [hb,hr]
 show Out.nx _=_
 rw [he]
noncomputable def oN (o:Option (List Int)):O:=o.map fun l=>(.lst (l.map D.int),true)
structure Cst where
 ns:List Int
 h:Int
 w:Int
 P:D
 fs:List (Str × D)
 B:List (Int × List Int)
 gs:List (Str × D)
 due:List Int
noncomputable abbrev envW (K:Cst) (s6:Option Int) (here:List Int) (a10:Option Int) (a11:Option (List D)) (b:Bool) (a12 a13:Option Int) (a14:O) (a15:Option (List Int)):Vi.Env :=
 [some (.lst (K.ns.map D.int),false),some (.int K.h,true),some (.int K.w,true),some (K.P,true),some (.obj 0 K.fs,true),some (.dK (K.B.map rowK),true),oI s6,some (.obj 0 K.gs,true),some (.lst (here.map D.int),true),some (.lst (K.due.map D.int),true),oI a10,a11.map fun l=>(.lst l,b),oI a12,oI a13,a14,oN a15]
noncomputable abbrev hU:List S:=match d3.body.getD 9 .pass with
 | .for _ _ _ _ b=>b
 | _=>[]
noncomputable abbrev withZ:S:=.wth [12,13,14] 11 (.ix (.var 11) (.bin .mod (.var 10) (.bi .len [(.var 11)]))) [.set 8 (.bin .add (.bin .add (.sl (.var 8) .nil (.var 12)) (.var 14)) (.sl (.var 8) (.bin .add (.var 12) (.var 13)) .nil))]
section
variable {K:Cst} {s6:Option Int} {F:Int→List Int} {here:List Int} {pool:List Int} {marks:List (Int × Int)} {shuts:List Int}
theorem with_Z {ds:List D} (hd:∀ d∈ds,Deed F here d) (hne:ds≠[]) (hh:here.length≤1000) (x:Int) (a12 a13:Option Int) (a15:Option (List Int)) :
  ∃ here' a12' a13',runS t28 withZ (envW K s6 here (some x) (some ds) true a12 a13 none a15)=.nx (envW K s6 here' (some x) (some ds) true a12' a13' none a15)∧here'.flatMap F=here.flatMap F∧here'.length≤here.length+1:=by
 have hlen:0 < ds.length:=List.length_pos_iff.mpr hne
 have hpos:(0:Int) < (ds.length:Int):=ve.mpr hlen
 let j:Nat:=(x % (ds.length:Int)).toNat
 have j1:=ua x (show (ds.length:Int)≠0 from fun z=>p8 hlen (qm z))
 have j2:=vz x hpos
 have hj:x % (ds.length:Int)=(j:Int):=(tm j1).symm
 have hjl:j < ds.length:=ve.mp (by rw [← hj]; exact j2)
 have hg:ds[j]?=some ds[j]:=z9 hjl
 refine zz fun P_ k_=>?_
 obtain ⟨a,m,new,ed,hm,hnl,hf⟩:=hd ds[j] (ro hjl)
 refine k_ ?_
 let ρl:Vi.Env:=envW K s6 here (some x) (some ds) false a12 a13 none a15
 have v11:runE t28 (.var 11) ρl=.ok (.lst ds,.old):=rfl
 have ln:runE t28 (.bi .len [(.var 11)]) ρl=.ok (.int (ds.length:Int),.sto []):=aK v11 (b:=.len) (by rw [biD_1])
 have ix:runE t28 (.ix (.var 11) (.bin .mod (.var 10) (.bi .len [(.var 11)]))) ρl=.ok (.tup [.int (a:Int),.int (m:Int),.lst (new.map D.int)],.old) :=
  run_ix (d:=.tup [.int (a:Int),.int (m:Int),.lst (new.map D.int)]) v11 (ax (show runE t28 (.var 10) ρl=.ok (.int x,.sto []) from rfl) ln (o:=.mod) (z:=.int (j:Int)) (by rw [opD_5,if_pos hpos,hj])) (by rw [← ed]; exact ix_nat hg)
 let ρ2:Vi.Env:=envW K s6 here (some x) (some ds) false (some (a:Int)) (some (m:Int)) (some (.lst (new.map D.int),false)) a15
 have bd:cn ρl [12,13,14] false (.tup [.int (a:Int),.int (m:Int),.lst (new.map D.int)]) .old=some ρ2:=rfl
 have ha:a≤here.length:=z5 (yc _ _) hm
 have v8:runE t28 (.var 8) ρ2=.ok (.lst (here.map D.int),.sto [8]):=rfl
 have v12:runE t28 (.var 12) ρ2=.ok (.int (a:Int),.sto []):=rfl
 have v13:runE t28 (.var 13) ρ2=.ok (.int (m:Int),.sto []):=rfl
 have v14:runE t28 (.var 14) ρ2=.ok (.lst (new.map D.int),.old):=rfl
 have e1:=gx v8 (show runE t28 .nil ρ2=.ok (.non,.sto []) from rfl) v12 (p:=none) (q:=some (a:Int)) rfl rfl
 rw [cut_fst here a ha] at e1
 have e2:=gx v8 (ax v12 v13 (o:=.add) (z:=.int ((a+m:Nat):Int)) (by rw [opD_1]; rfl)) (show runE t28 .nil ρ2=.ok (.non,.sto []) from rfl) (p:=some ((a+m:Nat):Int)) (q:=none) rfl rfl
 rw [cut_snd here (a+m) hm] at e2
 have l1:(here.take a).length=a:=by rw [tz,vp ha]
 have l2:(here.drop (a+m)).length=here.length - (a+m):=ui ..
 have b1:(here.take a).length+new.length≤1000+1001:=by
  rw [l1]
  exact wa (z5 ha hh) (z5 hnl (xo (z5 (z5 (w9 _ _) hm) hh)))
 have e3:=i9 (i9 e1 v14 (z5 b1 (by decide))) e2 (by rw [zl]; exact z5 (wa b1 (z5 (z5 (xy l2) (Nat.sub_le _ _)) hh)) (by decide))
 refine ⟨here.take a++new++here.drop (a+m),some (a:Int),some (m:Int), ?_,hf,by rw [zl,zl,l1,l2]; exact z5 (ux (yz hnl a) _) (xy ((sk (a+m) 1 _).trans (congrArg mn (Nat.add_sub_cancel' hm))))⟩
 have st:al t28 [.set 8 (.bin .add (.bin .add (.sl (.var 8) .nil (.var 12)) (.var 14)) (.sl (.var 8) (.bin .add (.var 12) (.var 13)) .nil))] ρ2=.nx (envW K s6 (here.take a++new++here.drop (a+m)) (some x) (some ds) false (some (a:Int)) (some (m:Int)) (some (.lst (new.map D.int),false)) a15):=av (aA e3 rfl)
 refine run_wth (ρl:=ρl) (by kernel_rfl) ix bd st ?_
 cases a15 <;> cases s6 <;> kernel_rfl
theorem t28_28:t28.fn 28=gE:=rfl
theorem t28_29:t28.fn 29=fo:=rfl
inductive InZ (K:Cst) (s6:Option Int) (F:Int→List Int) (n:Nat) (ρ:Vi.Env):Prop
 | mk (here:List Int) (a10:Option Int) (a11:Option (List D)) (a12 a13:Option Int) (a15:Option (List Int)) (e:ρ=envW K s6 here a10 a11 true a12 a13 none a15) (hf:here.flatMap F=K.due) (hl:here.length≤n)
inductive Two (K:Cst) (here:List Int):Prop
 | mk (y:List Int) (e1:du [.obj 0 K.gs,.lst (here.map D.int)]=.ok (.lst (y.map D.int))) (e2:gE [.dK (K.B.map rowK),.lst (here.map D.int)]=.ok (.lst (y.map D.int)))
theorem turn_Z {rows:List (Int × List Int)} (hP:K.P=bo pool marks rows shuts) (hop:∀ here:List Int,here.length≤100→du [.obj 0 K.fs,.lst (here.map D.int)]=.ok (.lst ((here.flatMap F).map D.int))) (hop2:∀ here:List Int,here.length≤100→Two K here)
  (hde:∀ here:List Int,here.length≤100→DeedsOk rows here F) (hdl:K.due.length≤1000000) {n:Nat} (hn:n < 99) (x:Int) {ρ:Vi.Env} (h:InZ K s6 F n ρ) :
  ∃ ρ',bC [10] true (fun ρ1=>al t28 hU ρ1) ρ (.int x)=.nx ρ'∧InZ K s6 F (n+1) ρ':=by
 refine zz fun P_ k_=>?_
 obtain ⟨here,a10,a11,a12,a13,a15,rfl,hf,hl⟩:=h
 refine k_ ?_
 show ∃ ρ',al t28 hU (envW K s6 here (some x) a11 true a12 a13 none a15)=.nx ρ'∧_
 refine zz fun P_ k_=>?_
 obtain ⟨ds,ed,hd⟩:=hde here (z5 hl (xn (vb hn (by decide))))
 have s1:runS t28 (hU.getD 0 .pass) (envW K s6 here (some x) a11 true a12 a13 none a15)=.nx (envW K s6 here (some x) (some ds) true a12 a13 none a15):=by
  refine aA (aE (f:=29) (ds:=[.dK (rows.map rowK),.lst (here.map D.int)]) (ak (x:=.dK (rows.map rowK)) (k:=.bor) ?_ (ak (show runE t28 (.var 8) _=.ok (.lst (here.map D.int),.sto [8]) from rfl) aJ)) (by rw [t28_29]; exact ed)) rfl
  have v3:runE t28 (.var 3) (envW K s6 here (some x) a11 true a12 a13 none a15)=.ok (bo pool marks rows shuts,.sto [3]):=aD (bB (by rw [← hP]; rfl) rfl)
  exact run_ix v3 (show runE t28 (.int 2) _=.ok (.int 2,.sto []) from rfl) rfl
 have c2:runE t28 (.cmp .ne (.var 11) (.lst [])) (envW K s6 here (some x) (some ds) true a12 a13 none a15)=.ok (.bl (!ds.isEmpty),.sto []):=aV (k:=.sto [11]) (k':=.sto []) rfl rfl (ne_nil ds)
 have s2:∃ here' a12' a13',runS t28 (hU.getD 1 .pass) (envW K s6 here (some x) (some ds) true a12 a13 none a15)=.nx (envW K s6 here' (some x) (some ds) true a12' a13' none a15)∧here'.flatMap F=here.flatMap F∧here'.length≤here.length+1:=by
  cases ds with
  | nil=>exact ⟨here,a12,a13,(aR c2).trans bx,rfl,rf _⟩
  | cons d r =>
   obtain ⟨h1,b1,b2,e,q1,q2⟩:=with_Z (K:=K) (s6:=s6) hd (fun z=>nomatch z) (z5 hl (xn (vb hn (by decide)))) x a12 a13 a15
   exact ⟨h1,b1,b2,(bu c2).trans (av e),q1,q2⟩
 obtain ⟨here',b12,b13,s2,q1,q2⟩:=s2
 refine k_ ?_
 have hf':here'.flatMap F=K.due:=q1.trans hf
 have hl':here'.length≤100:=z5 q2 (xo (z5 hl (xn hn)))
 have op:=hop here' hl'
 rw [hf'] at op
 have s3:runS t28 (hU.getD 2 .pass) (envW K s6 here' (some x) (some ds) true b12 b13 none a15)=.nx (envW K s6 here' (some x) (some ds) true b12 b13 none (some K.due)) :=
  aA (aE (f:=8) (ak (aD (get_obj (i:=4) rfl)) (ak (run_list (l:=here') (k:=.sto [8]) rfl) aJ)) op) rfl
 let ρ3:Vi.Env:=envW K s6 here' (some x) (some ds) true b12 b13 none (some K.due)
 have v15:runE t28 (.var 15) ρ3=.ok (.lst (K.due.map D.int),.sto [15]):=rfl
 have v9:runE t28 (.var 9) ρ3=.ok (.lst (K.due.map D.int),.sto [9]):=rfl
 have s4:runS t28 (hU.getD 3 .pass) ρ3=.nx ρ3:=(aR ((cU (run_not (aE (f:=23) (ak v15 aJ) (is_text_eq hdl)))).trans (run_neI v15 v9))).trans bx
 obtain ⟨y,e1,e2⟩:=hop2 here' hl'
 have c5:runE t28 (.cmp .eq (.bin .mod (.var 10) (.int 4)) (.int 1)) ρ3=.ok (.bl (x % 4 == 1),.sto []):=aV (ax (show runE t28 (.var 10) ρ3=.ok (.int x,.sto []) from rfl) (show runE t28 (.int 4) ρ3=.ok (.int 4,.sto []) from rfl) (o:=.mod) (z:=.int (x % 4)) (by rw [opD_5,if_pos (by decide)])) (show runE t28 (.int 1) ρ3=.ok (.int 1,.sto []) from rfl) rfl
 have c6:runE t28 (.cmp .ne (.call 8 [(.var 7),(.bi .list [(.var 8)])]) (.call 28 [(.var 5),(.var 8)])) ρ3=.ok (.bl false,.sto []) :=
  run_neI (aE (f:=8) (ak (aD (get_obj (i:=7) rfl)) (ak (run_list (l:=here') (k:=.sto [8]) rfl) aJ)) e1) (aE (f:=28) (ak (aD (bB (i:=5) rfl rfl)) (ak (show runE t28 (.var 8) ρ3=.ok (.lst (here'.map D.int),.sto [8]) from rfl) aJ)) (by rw [t28_28]; exact e2))
 have c7:runE t28 (.and (.cmp .eq (.bin .mod (.var 10) (.int 4)) (.int 1)) (.cmp .ne (.call 8 [(.var 7),(.bi .list [(.var 8)])]) (.call 28 [(.var 5),(.var 8)]))) ρ3=.ok (.bl false,.sto []):=by
  cases hb:(x % 4 == 1) with
  | true=>rw [hb] at c5; exact (cP c5).trans c6
  | false=>rw [hb] at c5; exact eS c5
 have s5:runS t28 (hU.getD 4 .pass) ρ3=.nx ρ3:=(aR c7).trans bx
 exact ⟨ρ3,(ae s1).trans ((ae s2).trans ((ae s3).trans ((ae s4).trans (av s5)))),here',some x,some ds,b12,b13,some K.due,rfl,hf',z5 q2 (xo hl)⟩
end
end K24
namespace K24
open Vi K12 K21 K22
open PySem (Str)
theorem cut_le {α:Type} (l:List α) (a b:Option Int):(cutD l a b).length≤l.length:=by
 unfold cutD
 rw [tz,ui]
 exact z5 (pv _ _) (Nat.sub_le _ _)
theorem dn_sum {L:Int→Option (List Int)} {F:Int→List Int} {c:Int→Nat} (P:Opn L F c) {m:Nat} {x y:List Int} (d:Dn L m x y):(y.map c).sum≤(x.map c).sum:=by
 induction d with
 | z _=>exact zf _
 | s _ _ ih=>exact z5 ih (onc_le P _).1
theorem law_true (ns:List Int) (hn:ns.length≤63):r_law [.lst (ns.map D.int)]=.ok (.bl true):=by
 refine zz fun P_ k_=>?_
 obtain ⟨pool,marks,rows,shuts,sizes,sz,idx,G,hp,marks',rows',shuts',found,found2,hrev,o,x,hx,e⟩:=begin_ok ns
 refine k_ ?_
 generalize ns.getD 0 0=h at e
 generalize ns.getD 1 0 % 15=w at e
 have T:=G.tab hp
 have G2:=bk_good G
 have T2:=G2.tab hp
 refine zz fun P_ k_=>?_
 obtain ⟨F,c,P⟩:=opn_ok G (z5 hp (by decide))
 obtain ⟨F2,c2,P2⟩:=opn_ok G2 (z5 hp (by decide))
 have hL:Rows rows (look rows):=fun s=>iQ (rows':=rows) T.nr (.inl rfl) s
 have hL2:Rows (bk rows) (look (bk rows)):=fun s=>iQ (rows':=bk rows) T2.nr (.inl rfl) s
 have hr:∀ s,bO [tabD marks' rows' shuts' found,.int s]=.ok (rowV (look rows) s):=fun s=>trow_eq T.nr hrev s
 have hr2:∀ s,bO [tabD [] (bk rows) (twos (bk rows)) found2,.int s]=.ok (rowV (look (bk rows)) s):=fun s=>trow_eq T2.nr (.inl rfl) s
 have hf:=no_row (marks:=marks') (rows:=rows') (shuts:=shuts') (found:=found)
 have hf2:=no_row (marks:=[]) (rows:=bk rows) (shuts:=twos (bk rows)) (found:=found2)
 have top:∀ {c:Int→Nat} (_:∀ s,c s≤3400) {y:List Int},y.length≤100→(y.map c).sum≤700000:=fun {c} hc {y} hy=>z5 (sum_top hc y) (z5 (uc 3400 hy) (show 3400 * 100≤700000 by decide))
 have hs:(x.map c).sum≤300000:=z5 (sum_top P.top x) (z5 (uc 3400 hx) (by decide))
 obtain ⟨m,y,d,_⟩:=dn_ex P 300000 x hs
 obtain ⟨hy,ey⟩:=d.out P
 refine k_ ?_
 have hys:(y.map c).sum≤300000:=z5 (dn_sum P d) hs
 have hyl:y.length≤300000:=z5 (gL P.one y) hys
 let K : Cst := ⟨ns, h, w, bo pool marks rows shuts, [("rank_by_sign", .dK (marks'.map da)), ("row_by_sign", .dK (rows'.map rowK)), ("shut_by_sign", .dK (shuts'.map dD)), ("sign_by_pair", .dT found)], bk rows, [("rank_by_sign", .dK (([] : List (Int × Int)).map da)), ("row_by_sign", .dK ((bk rows).map rowK)), ("shut_by_sign", .dK ((twos (bk rows)).map dD)), ("sign_by_pair", .dT found2)], y⟩
 have be:=bare_eq P hL (x:=x) (top P.top (z5 hx (by decide)))
 rw [← ey] at be
 have s9:runS t28 (d3.body.getD 8 .pass) (envL ns h w (some (bo pool marks rows shuts,true)) (some (tabD marks' rows' shuts' found,true)) (some (.dK ((bk rows).map rowK),true)) (oI o) (some (tabD [] (bk rows) (twos (bk rows)) found2,true)) (some (.lst (x.map D.int),true)) none none none none)=.nx (envW K o x none none true none none none none) :=
  aA (aE (f:=28) (ds:=[.dK (rows.map rowK),.lst (x.map D.int)]) (ak (x:=.dK (rows.map rowK)) (k:=.bor) rfl (ak (show runE t28 (.var 8) _=.ok (.lst (x.map D.int),.sto [8]) from rfl) aJ)) (by rw [t28_28]; exact be)) rfl
 have v2:runE t28 (.var 2) (envW K o x none none true none none none none)=.ok (.int w,.sto []):=rfl
 have ad:∀ n:Int,runE t28 (.bin .add (.int n) (.var 2)) (envW K o x none none true none none none none)=.ok (.int (n+w),.sto []):=fun n=>ax (show runE t28 (.int n) _=.ok (.int n,.sto []) from rfl) v2 (by rw [opD_1])
 have sl:=gx (show runE t28 (.var 0) (envW K o x none none true none none none none)=.ok (.lst (ns.map D.int),.old) from rfl) (ad 8) (ad 20) (p:=some (8+w)) (q:=some (20+w)) rfl rfl
 have cl:=cut_le ns (some (8+w)) (some (20+w))
 generalize cutD ns (some (8+w)) (some (20+w))=cs at sl cl
 have hI:runI t28 .each [(.bin .add (.lst [(.int 0)]) (.sl (.var 0) (.bin .add (.int 8) (.var 2)) (.bin .add (.int 20) (.var 2))))] (envW K o x none none true none none none none)=.ok (([0]++cs).map D.int,.sto []) :=
  run_each (i9 (l:=[0]) (k:=.sto []) rfl sl (show 1+cs.length≤1000000 from z5 (yz (z5 cl hn) 1) (by decide))) rfl
 refine zz fun P_ k_=>?_
 obtain ⟨ρ',ef,q⟩:=cx (f:=bC [10] true fun ρ1=>al t28 hU ρ1) (fun (p:List Int) ρ=>InZ K o F (6+p.length) ρ) D.int ([0]++cs) [] (envW K o x none none true none none none none) ⟨x,none,none,none,none,none,rfl,ey.symm,hx⟩ fun p z t ρ hpp hz=>by
  rw [wq] at hpp
  have hpl:p.length≤64:=by
   have:=congrArg vg hpp
   rw [zl,zl,xx] at this
   exact z5 (z5 (yc _ _) (xy this.symm)) (yz (z5 cl hn) 1)
  obtain ⟨ρ2,e2,q2⟩:=turn_Z (K:=K) (F:=F) (rows:=rows) rfl (fun here hh=>gF P rfl hf hr (top P.top hh)) (fun here hh=>⟨here.flatMap F2,gF P2 rfl hf2 hr2 (top P2.top hh),bare_eq P2 hL2 (top P2.top hh)⟩)
   (fun here hh=>deeds_ok P hL (fun s r hm=>⟨look_in T.nr hm,fun hz=>by have:=T.short s r hm; rw [hz] at this; exact absurd this (by decide)⟩) (z5 (z5 (z5 (w9 _ _) G.lm) hp) (by decide)) (z5 hh (by decide))) (z5 hyl (by decide)) (zg (yz hpl 6) (by decide)) z hz
  exact ⟨ρ2,e2,by rw [zl,xx]; exact q2⟩
 obtain ⟨here,a10,a11,a12,a13,a15,rfl,_,_⟩:=q
 refine k_ ?_
 let ρ9:Vi.Env:=rest (envW K o x none none true none none none none) (envW K o x none none true none none none none) (envW K o here a10 a11 true a12 a13 none a15) ([10]++asgs hU)
 have s10:runS t28 (d3.body.getD 9 .pass) (envW K o x none none true none none none none)=.nx ρ9:=by
  show runS t28 (.for [10] true .each [(.bin .add (.lst [(.int 0)]) (.sl (.var 0) (.bin .add (.int 8) (.var 2)) (.bin .add (.int 20) (.var 2))))] hU) _=_
  rw [cE hI rfl,show ao (envW K o x none none true none none none none) (.sto [])=envW K o x none none true none none none none by kernel_rfl,ef]
  rfl
 have h4:ρ9[4]?=some (some (.obj 0 K.fs,true)):=dO rfl rfl fun _ z=>by injection z with z; injection z with z; injection z with _ z; cases z
 have h9:ρ9[9]?=some (some (.lst (y.map D.int),true)):=dO rfl rfl fun _ z=>by injection z with z; injection z with z; injection z with _ z; cases z
 have v4:runE t28 (.var 4) ρ9=.ok (.obj 0 K.fs,.sto [4]):=aD (get_obj h4)
 have v9:runE t28 (.var 9) ρ9=.ok (.lst (y.map D.int),.sto [9]):=run_varL h9
 have dp:=depth_eq P rfl hf hr (Dn.z hy) (xc _) hys
 have op:=gF P rfl hf hr (z5 hys (by decide))
 rw [flat_bare P hy] at op
 have c1:runE t28 (.cmp .eq (.call 21 [(.var 4),(.var 9)]) (.int 0)) ρ9=.ok (.bl true,.sto []):=aV (aE (f:=21) (ak v4 (ak v9 aJ)) dp) (show runE t28 (.int 0) ρ9=.ok (.int 0,.sto []) from rfl) rfl
 have c3:runE t28 (.cmp .eq (.call 8 [(.var 4),(.var 9)]) (.var 9)) ρ9=.ok (.bl true,.sto []):=by
  rw [run_eqI (aE (f:=8) (ak v4 (ak v9 aJ)) op) v9,decide_eq_true rfl]
 refine dA rfl (by decide) ?_
 show al t28 (d3.body.take 8++d3.body.drop 8) (some (.lst (ns.map D.int),false)::yt 15 none)=_
 rw [run_app2,e]
 exact (ae s9).trans ((ae s10).trans (dL (is:=[]) ((cP c1).trans c3)))
end K24
namespace K24
open PySem PySem.Spec PyProof.Rows L2 Vi K12 K21 K22
open PySem (Str)
noncomputable def top (i:Nat):Stmt:=PySem.Challenge.pw_signforms_k24_whole_any_turn_of_openings.main.body.getD i (.Pass ⟨0,0,0,0⟩)
theorem bt_len : yr "len" = some (.builtin "len") := by decide +kernel
theorem bt_sorted : yr "sorted" = some (.builtin "sorted") := by decide +kernel
theorem bt_sum : yr "sum" = some (.builtin "sum") := by decide +kernel
theorem bt_any : yr "any" = some (.builtin "any") := by decide +kernel
theorem bt_all : yr "all" = some (.builtin "all") := by decide +kernel
theorem jG : yr "list" = some (.type "list") := by decide +kernel
theorem bt_tuple : yr "tuple" = some (.type "tuple") := by decide +kernel
theorem bt_dict : yr "dict" = some (.type "dict") := by decide +kernel
theorem ff : yr "isinstance" = some (.builtin "isinstance") := by decide +kernel
theorem bt_int : yr "int" = some (.type "int") := by decide +kernel
theorem fO : yr "enumerate" = some (.type "enumerate") := by decide +kernel
theorem eM : yr "reversed" = some (.type "reversed") := by decide +kernel
section
variable {X:Cx} {cl:Nat→Addr} {M:Tab} {e:Expr} {es:List Expr} {es':List E} {e':E} {pos pos' p:Pos} {x:Str}
theorem gvl (i : Nat) (hN : X.N[i]? = some x := by exact rfl) (hv : X.env.scope.names.lookup x = some .local := by exact rfl) (hd : (x == ("__debug__" : Str)) = false := by exact rfl) (hc : (x == ("__classdict__" : Str)) = false := by exact rfl) : GE X cl M (.Name x pos) (.var i) := g_var hN (.inl hv) hd hc
theorem gvr (i : Nat) (hN : X.N[i]? = some x := by exact rfl) (hv : X.env.scope.names.lookup x = some .cell := by exact rfl) (hd : (x == ("__debug__" : Str)) = false := by exact rfl) (hc : (x == ("__classdict__" : Str)) = false := by exact rfl) : GE X cl M (.Name x pos) (.var i) := g_var hN (.inr (.inl hv)) hd hc
theorem pvl (i : Nat) (hN : X.N[i]? = some x := by exact rfl) (hv : X.env.scope.names.lookup x = some .local := by exact rfl) (hd : (x == ("__debug__" : Str)) = false := by exact rfl) (hc : (x == ("__classdict__" : Str)) = false := by exact rfl) : PE X (.Name x pos) (tVar i) := pe_var hN (.inl hv) hd hc
theorem pvr (i : Nat) (hN : X.N[i]? = some x := by exact rfl) (hv : X.env.scope.names.lookup x = some .cell := by exact rfl) (hd : (x == ("__debug__" : Str)) = false := by exact rfl) (hc : (x == ("__classdict__" : Str)) = false := by exact rfl) : PE X (.Name x pos) (tVar i) := pe_var hN (.inr (.inl hv)) hd hc
theorem pnl (i:Nat) (nd:X.N.Nodup) (hi:X.N[i]?=some x:=by exact rfl) (hx:X.env.scope.names.lookup x=some .local:=by exact rfl) (hf:X.fn x=true∨X.env.scope.names.lookup x=some .local:=by first | exact .inl rfl | exact .inr rfl):PG X (.Name x pos) (fA i):=pg_name nd hi (.inl hx) hf
theorem gsl (i:Nat) (nd:X.N.Nodup) (he:GE X cl M e e') (hi:X.N[i]?=some x:=by exact rfl) (hx:X.env.scope.names.lookup x=some .local:=by exact rfl) (hs:ug e (some (.Name x pos')) pos.line X.env=pure false:=by exact rfl) (hf:X.fn x=true:=by exact rfl):GS X cl M (.Assign [.Name x pos'] e pos) (.set i e'):=gs_set nd hi (.inl hx) hs (.inl hf) he
theorem gsr (i:Nat) (nd:X.N.Nodup) (he:GE X cl M e e') (hi:X.N[i]?=some x:=by exact rfl) (hx:X.env.scope.names.lookup x=some .cell:=by exact rfl) (hs:ug e (some (.Name x pos')) pos.line X.env=pure false:=by exact rfl) (hf:X.fn x=true:=by exact rfl):GS X cl M (.Assign [.Name x pos'] e pos) (.set i e'):=gs_set nd hi (.inr hx) hs (.inl hf) he
theorem hu9 {u n m:Nat} {k:Nat} (h:u+m < k) (hn:n≤m:=by decide):u+n < k:=zg (yz hn _) h
theorem e6 (hm : X.mg "len" = none) (ha : GA X cl M (e :: es) es') (hg : Gl X "len" := by exact rfl) (he : zh (e :: es) X.env = (false, eval e X.env) :: zh es X.env := by exact rfl) (hpl : (backTo pos (zh es X.env)).any (·.1) = false := by exact rfl) : GE X cl M (.Call (.Name "len" p) (e :: es) [] pos) (.bi .len es') := g_biF (id := "len") (fun _ _ h => bi_len h) hg hm bt_len (by decide +kernel) rfl he hpl ha
theorem gb_sum (hm : X.mg "sum" = none) (ha : GA X cl M (e :: es) es') (hc : X.calm = true := by exact rfl) (hg : Gl X "sum" := by exact rfl) (he : zh (e :: es) X.env = (false, eval e X.env) :: zh es X.env := by exact rfl) (hpl : (backTo pos (zh es X.env)).any (·.1) = false := by exact rfl) : GE X cl M (.Call (.Name "sum" p) (e :: es) [] pos) (.bi .sum es') := g_biF (id := "sum") (fun _ _ h => bi_sum hc h) hg hm bt_sum (by decide +kernel) rfl he hpl ha
theorem gb_any (hm : X.mg "any" = none) (ha : GA X cl M (e :: es) es') (hc : X.calm = true := by exact rfl) (hg : Gl X "any" := by exact rfl) (he : zh (e :: es) X.env = (false, eval e X.env) :: zh es X.env := by exact rfl) (hpl : (backTo pos (zh es X.env)).any (·.1) = false := by exact rfl) : GE X cl M (.Call (.Name "any" p) (e :: es) [] pos) (.bi .any es') := g_biF (id := "any") (fun _ _ h => bi_any hc h) hg hm bt_any (by decide +kernel) rfl he hpl ha
theorem gb_all (hm : X.mg "all" = none) (ha : GA X cl M (e :: es) es') (hc : X.calm = true := by exact rfl) (hg : Gl X "all" := by exact rfl) (he : zh (e :: es) X.env = (false, eval e X.env) :: zh es X.env := by exact rfl) (hpl : (backTo pos (zh es X.env)).any (·.1) = false := by exact rfl) : GE X cl M (.Call (.Name "all" p) (e :: es) [] pos) (.bi .all es') := g_biF (id := "all") (fun _ _ h => bi_all hc h) hg hm bt_all (by decide +kernel) rfl he hpl ha
theorem eZ (hm : X.mg "sorted" = none) (ha : GA X cl M (e :: es) es') (hc : X.calm = true := by exact rfl) (hg : Gl X "sorted" := by exact rfl) (he : zh (e :: es) X.env = (false, eval e X.env) :: zh es X.env := by exact rfl) (hpl : (backTo pos (zh es X.env)).any (·.1) = false := by exact rfl) : GE X cl M (.Call (.Name "sorted" p) (e :: es) [] pos) (.bi .sorted es') := g_biF (id := "sorted") (fun _ _ h => bi_sorted hc h) hg hm bt_sorted (by decide +kernel) rfl he hpl ha
theorem jy (hm : X.mg "list" = none) (ha : GA X cl M (e :: es) es') (hg : Gl X "list" := by exact rfl) (he : zh (e :: es) X.env = (false, eval e X.env) :: zh es X.env := by exact rfl) (hpl : (backTo pos (zh es X.env)).any (·.1) = false := by exact rfl) : GE X cl M (.Call (.Name "list" p) (e :: es) [] pos) (.bi .list es') := g_biT (id := "list") (fun _ _ h => bi_list h) hg hm jG (by decide +kernel) rfl he hpl ha
theorem gb_tuple (hm : X.mg "tuple" = none) (ha : GA X cl M (e :: es) es') (hg : Gl X "tuple" := by exact rfl) (he : zh (e :: es) X.env = (false, eval e X.env) :: zh es X.env := by exact rfl) (hpl : (backTo pos (zh es X.env)).any (·.1) = false := by exact rfl) : GE X cl M (.Call (.Name "tuple" p) (e :: es) [] pos) (.bi .tuple es') := g_biT (id := "tuple") (fun _ _ h => bi_tuple h) hg hm bt_tuple (by decide +kernel) rfl he hpl ha
theorem gb_dict (hm : X.mg "dict" = none) (ha : GA X cl M (e :: es) es') (hc : X.calm = true := by exact rfl) (hg : Gl X "dict" := by exact rfl) (he : zh (e :: es) X.env = (false, eval e X.env) :: zh es X.env := by exact rfl) (hpl : (backTo pos (zh es X.env)).any (·.1) = false := by exact rfl) : GE X cl M (.Call (.Name "dict" p) (e :: es) [] pos) (.bi .dict es') := g_biT (id := "dict") (fun _ _ h => bi_dict hc h) hg hm bt_dict (by decide +kernel) rfl he hpl ha
end
structure Txt (K:ze) (mg:Str→Option Value) (C:Addr) (tk:Tok):Prop where
 cl:Cls K C
 n_rank_by_sign : dC K C "rank_by_sign"
 n_row_by_sign : dC K C "row_by_sign"
 n_shut_by_sign : dC K C "shut_by_sign"
 n_sign_by_pair : dC K C "sign_by_pair"
 mlen : mg "len" = none
 msorted : mg "sorted" = none
 msum : mg "sum" = none
 many : mg "any" = none
 mall : mg "all" = none
 mlist : mg "list" = none
 mtuple : mg "tuple" = none
 mdict : mg "dict" = none
 misinstance : mg "isinstance" = none
 mint : mg "int" = none
 mrange : mg "range" = none
 menumerate : mg "enumerate" = none
 mreversed : mg "reversed" = none
 mLONGEST : mg "LONGEST" = some (.int 16 tk)
section
variable {P:yp} {w:World} {K:ze} {mg:Str→Option Value} {base:Heap} {C:Addr} {tk:Tok}
noncomputable abbrev aY:Stmt:=top 15
theorem dr : aO ["signs", "seen", "again", "sign"] ["signs"] (ab aY) := ⟨rfl, rfl, rfl, by decide +kernel, rfl, by decide +kernel, by decide +kernel⟩
theorem ok_repeated {f : Addr} {fd : x6} (Fu : Fun K "repeated" "repeated" aY f fd) (T : Txt K mg C tk) : FnOk P w K mg base CX0 1 f fd ["signs"] (spP (fun _ => C) de) :=
 cS (cl:=fun _=>C) (M:=t0) (fn:=fB) (kk:=0) Fu dr rfl rfl (fun cdv A outer s H E hr ρ=>(show GSs (cxOf CX0 P w K mg base _ _ (ab aY) f cdv A outer s H E).nox (fun _=>C) t0 (ag aY) fB.body from
 (aa (gsl 1 dr.nd iw)
 (aa (gsl 2 dr.nd (cL aj))
 (aa (eG xb rfl (fun _=>rfl) (bP (gvl 0)) (pnl 3 dr.nd) aG (aa (cq (aU (o:=.mem) (hu8 hr) rfl (gvl 3) (gvl 1)) (aa (cQ (fun h=>bn (dE zx yl yj aW (pvl 2) (bc h bT))) (gvl 3))
 af) af)
 (aa (iu (i:=1) (hu9 (hu8 hr)) rfl (Or.inl rfl) rfl rfl rfl (gvl 3) g_bl)
 af)))
 (aa (bw (gvl 2))
 af))))) ρ)
noncomputable abbrev ay:Stmt:=top 16
theorem bL : aO ["marks", "rows", "shuts", "told", "mark", "row", "again"] ["marks", "rows", "shuts"] (ab ay) := ⟨rfl, rfl, rfl, by decide +kernel, rfl, by decide +kernel, by decide +kernel⟩
theorem gG {f : Addr} {fd : x6} (Fu : Fun K "refuse_twice" "refuse_twice" ay f fd) (T : Txt K mg C tk) (L_repeated : Lnk P w K mg base (fun _ => C) "repeated" 1 ["signs"] de) : FnOk P w K mg base CX0 2 f fd ["marks", "rows", "shuts"] (spP (fun _ => C) bR) :=
 cS (cl:=fun _=>C) (M:=t1) (fn:=cy) (kk:=1) Fu bL rfl rfl (fun cdv A outer s H E hr ρ=>(show GSs (cxOf CX0 P w K mg base _ _ (ab ay) f cdv A outer s H E).nox (fun _=>C) t1 (ag ay) cy.body from
 (aa (gsl 3 bL.nd (aB (op:=.add) (e8 rfl (bm rfl (by kernel_rfl)) (cY (by kernel_rfl)) (fun _=>rfl) (bP (gvl 0)) (fun X0 hX0=>by obtain ⟨C0,fp0,pins0,s0,H0,rfl⟩:=hX0; exact (pnl 4 bL.nd)) aG (Or.inl ⟨rfl,rfl⟩) (fun X0 hX0=>by obtain ⟨C0,fp0,pins0,s0,H0,rfl⟩:=hX0; exact (g_ix (fun _ _=>rfl) (gvl 4) aq))) (e8 rfl (bm rfl (by kernel_rfl)) (cY (by kernel_rfl)) (fun _=>rfl) (bP (gvl 1)) (fun X0 hX0=>by obtain ⟨C0,fp0,pins0,s0,H0,rfl⟩:=hX0; exact (pnl 5 bL.nd)) aG (Or.inl ⟨rfl,rfl⟩) (fun X0 hX0=>by obtain ⟨C0,fp0,pins0,s0,H0,rfl⟩:=hX0; exact (g_ix (fun _ _=>rfl) (gvl 5) aq)))))
 (aa (gsl 6 bL.nd (aB (op:=.add) (aS L_repeated hr (by decide) rfl rfl rfl rfl (ac rfl (gvl 3) aj)) (aS L_repeated hr (by decide) rfl rfl rfl rfl (ac rfl (gvl 2) aj))))
 (aa (cq (dy (gvl 6) (fun _=>rfl)) dZ af)
 af)))) ρ)
noncomputable abbrev au:Stmt:=top 17
theorem dc : aO ["row_by_sign", "shuts", "sign"] ["row_by_sign", "shuts"] (ab au) := ⟨rfl, rfl, rfl, by decide +kernel, rfl, by decide +kernel, by decide +kernel⟩
theorem ft {f : Addr} {fd : x6} (Fu : Fun K "refuse_no_pair" "refuse_no_pair" au f fd) (T : Txt K mg C tk) : FnOk P w K mg base CX0 1 f fd ["row_by_sign", "shuts"] (spP (fun _ => C) bE) :=
 cS (cl:=fun _=>C) (M:=t0) (fn:=cG) (kk:=0) Fu dc rfl rfl (fun cdv A outer s H E hr ρ=>(show GSs (cxOf CX0 P w K mg base _ _ (ab au) f cdv A outer s H E).nox (fun _=>C) t0 (ag au) cG.body from
 (aa (eG xb rfl (fun _=>rfl) (bP (eZ T.msorted (ac rfl (gvl 1) aj))) (pnl 2 dc.nd) aG (aa (cq (aU (o:=.ne) (hu8 hr) rfl (e6 T.mlen (ac rfl (g_get2 (hu9 (hu8 hr)) ⟨rfl,rfl,rfl,rfl⟩ (gvl 0) (gvl 2) (jz aj)) aj)) aq) dZ af)
 af))
 af)) ρ)
noncomputable abbrev aw:Stmt:=top 18
theorem bD : aO ["row_by_sign", "shut_by_sign", "found", "twins", "sign", "row", "least"] ["row_by_sign", "shut_by_sign"] (ab aw) := ⟨rfl, rfl, rfl, by decide +kernel, rfl, by decide +kernel, by decide +kernel⟩
theorem fV {f : Addr} {fd : x6} (Fu : Fun K "signs_by_pair" "signs_by_pair" aw f fd) (T : Txt K mg C tk) : FnOk P w K mg base CX0 1 f fd ["row_by_sign", "shut_by_sign"] (spP (fun _ => C) bM) :=
 cS (cl:=fun _=>C) (M:=t0) (fn:=cm) (kk:=0) Fu bD rfl rfl (fun cdv A outer s H E hr ρ=>(show GSs (cxOf CX0 P w K mg base _ _ (ab aw) f cdv A outer s H E).nox (fun _=>C) t0 (ag aw) cm.body from
 (aa (gsl 2 bD.nd iw)
 (aa (gsl 3 bD.nd (cL aj))
 (aa (eG xb rfl (fun _=>rfl) (bP (eZ T.msorted (ac rfl (gvl 0) aj))) (pnl 4 bD.nd) aG (aa (gsl 5 bD.nd (eD (hu9 (hu8 hr)) (fun _ _=>rfl) (gvl 0) (gvl 4)))
 (aa (cq (jv (gw_and (aU (o:=.eq) (hu8 hr) rfl (e6 T.mlen (ac rfl (gvl 5) aj)) aq) (gw_and1 (aU (o:=.nmem) (hu8 hr) rfl (gvl 4) (gvl 1))))) (aa (cq (aU (o:=.mem) (hu8 hr) rfl (gvl 5) (gvl 2)) (aa (cQ (fun h=>bn (dE zx yl yj aW (pvl 3) (bc h bT))) (jz (ac rfl (eD (hu9 (hu8 hr)) (fun _ _=>rfl) (gvl 2) (gvl 5)) (ac rfl (gvl 4) aj))))
 af) (aa (iu (i:=2) (hu9 (hu8 hr)) rfl (Or.inl rfl) rfl rfl rfl (gvl 5) (gvl 4))
 af))
 af) af)
 af)))
 (aa (cq (dy (gvl 3) (fun _=>rfl)) dZ af)
 (aa (bw (gvl 2))
 af)))))) ρ)
noncomputable abbrev az:Stmt:=top 19
theorem aI : aO ["row_by_sign", "lengths", "waiting", "held", "sign", "row", "part"] ["row_by_sign"] (ab az) := ⟨rfl, rfl, rfl, by decide +kernel, rfl, by decide +kernel, by decide +kernel⟩
theorem gH {f : Addr} {fd : x6} (Fu : Fun K "full_lengths" "full_lengths" az f fd) (T : Txt K mg C tk) : FnOk P w K mg base CX0 1 f fd ["row_by_sign"] (spP (fun _ => C) bS) :=
 cS (cl:=fun _=>C) (M:=t0) (fn:=db) (kk:=0) Fu aI rfl rfl (fun cdv A outer s H E hr ρ=>(show GSs (cxOf CX0 P w K mg base _ _ (ab az) f cdv A outer s H E).nox (fun _=>C) t0 (ag az) db.body from
 (aa (gsr 1 aI.nd iw)
 (aa (gsl 2 aI.nd (eZ T.msorted (ac rfl (gvr 0) aj)))
 (aa (gs_whl xb (dy (gvl 2) (fun _=>rfl)) (aa (gsl 3 aI.nd (cL aj))
 (aa (eG xb rfl (fun _=>rfl) (bP (gvl 2)) (pnl 4 aI.nd) aG (aa (gsl 5 aI.nd (eD (hu9 (hu8 hr)) (fun _ _=>rfl) (gvr 0) (gvl 4)))
 (aa (cq (dy (gb_any T.many (ac rfl (e8 rfl (bm rfl (by kernel_rfl)) (cY (by kernel_rfl)) (fun _=>rfl) (bP (gvl 5)) (fun X0 hX0=>by obtain ⟨C0,fp0,pins0,s0,H0,rfl⟩:=hX0; exact (pnl 6 aI.nd)) aG (Or.inl ⟨rfl,rfl⟩) (fun X0 hX0=>by obtain ⟨C0,fp0,pins0,s0,H0,rfl⟩:=hX0; exact (g_and (g_cmpE (o:=.mem) (hu8 hr) rfl (gvl 6) (gvr 0)) (g_one (g_cmpE (o:=.nmem) (hu8 hr) rfl (gvl 6) (gvr 1)))))) aj)) (fun _=>rfl)) (aa (cQ (fun h=>bn (dE zx yl yj aW (pvl 3) (bc h bT))) (gvl 4))
 af) (aa (iu (i:=1) (hu9 (hu8 hr)) rfl (Or.inr (Or.inl rfl)) rfl rfl rfl (gvl 4) (gb_sum T.msum (ac rfl (e8 rfl (bm rfl (by kernel_rfl)) (cY (by kernel_rfl)) (fun _=>rfl) (bP (gvl 5)) (fun X0 hX0=>by obtain ⟨C0,fp0,pins0,s0,H0,rfl⟩:=hX0; exact (pnl 6 aI.nd)) aG (Or.inl ⟨rfl,rfl⟩) (fun X0 hX0=>by obtain ⟨C0,fp0,pins0,s0,H0,rfl⟩:=hX0; exact (g_get2 (hu9 (hu8 hr)) ⟨rfl,rfl,rfl,rfl⟩ (gvr 1) (gvl 6) aq))) aj)))
 af))
 af)))
 (aa (cq (aU (o:=.eq) (hu8 hr) rfl (gvl 3) (gvl 2)) dZ af)
 (aa (gsl 2 aI.nd (gvl 3))
 af)))))
 (aa (bw (gvr 1))
 af))))) ρ)
noncomputable abbrev ar:Stmt:=top 21
theorem cT : aO ["lengths", "sign"] ["lengths"] (ab ar) := ⟨rfl, rfl, rfl, by decide +kernel, rfl, by decide +kernel, by decide +kernel⟩
theorem eY {f : Addr} {fd : x6} (Fu : Fun K "refuse_too_long" "refuse_too_long" ar f fd) (T : Txt K mg C tk) : FnOk P w K mg base CX0 1 f fd ["lengths"] (spP (fun _ => C) bv) :=
 cS (cl:=fun _=>C) (M:=t0) (fn:=cv) (kk:=0) Fu cT rfl rfl (fun cdv A outer s H E hr ρ=>(show GSs (cxOf CX0 P w K mg base _ _ (ab ar) f cdv A outer s H E).nox (fun _=>C) t0 (ag ar) cv.body from
 (aa (eG xb rfl (fun _=>rfl) (bP (eZ T.msorted (ac rfl (gvl 0) aj))) (pnl 1 cT.nd) aG (aa (cq (aU (o:=.gt) (hu8 hr) rfl (eD (hu9 (hu8 hr)) (fun _ _=>rfl) (gvl 0) (gvl 1)) (g_glb rfl T.mLONGEST rfl)) dZ af)
 af))
 af)) ρ)
noncomputable abbrev aH:Stmt:=inClass (top 14) 0
theorem eR : aO ["self", "marks", "rows", "shuts", "sign"] ["self", "marks", "rows", "shuts"] (ab aH) := ⟨rfl, rfl, rfl, by decide +kernel, rfl, by decide +kernel, by decide +kernel⟩
theorem jf {f : Addr} {fd : x6} (Fu : Fun K "__init__" "Table.__init__" aH f fd) (T : Txt K mg C tk) (L_refuse_twice : Lnk P w K mg base (fun _ => C) "refuse_twice" 2 ["marks", "rows", "shuts"] bR) (L_refuse_no_pair : Lnk P w K mg base (fun _ => C) "refuse_no_pair" 1 ["row_by_sign", "shuts"] bE) (L_signs_by_pair : Lnk P w K mg base (fun _ => C) "signs_by_pair" 1 ["row_by_sign", "shut_by_sign"] bM) (L_refuse_too_long : Lnk P w K mg base (fun _ => C) "refuse_too_long" 1 ["lengths"] bv) (L_full_lengths : Lnk P w K mg base (fun _ => C) "full_lengths" 1 ["row_by_sign"] bS) : FnOk P w K mg base CX0 3 f fd ["self", "marks", "rows", "shuts"] (spI (fun _ => C) 0 dR) :=
 init_ok (cl:=fun _=>C) (M:=t2) (fn:=cC) (kk:=2) Fu eR rfl rfl (fun cdv A outer s H E hr ρ=>(show GSs (cxOf CX0 P w K mg base _ _ (ab aH) f cdv A outer s H E).nox (fun _=>C) t2 (ag aH) cC.body from
 (aa (gs_expr rfl (aS L_refuse_twice hr (by decide) rfl rfl rfl rfl (ac rfl (gvl 1) (ac rfl (gvl 2) (ac rfl (gvl 3) aj)))))
 (aa (jw rfl (Or.inl rfl) rfl rfl (fun _=>⟨T.cl,T.n_rank_by_sign⟩) rfl (gb_dict T.mdict (ac rfl (gvl 1) aj)))
 (aa (jw rfl (Or.inl rfl) rfl rfl (fun _=>⟨T.cl,T.n_row_by_sign⟩) rfl (gb_dict T.mdict (ac rfl (gvl 2) aj)))
 (aa (jw rfl (Or.inl rfl) rfl rfl (fun _=>⟨T.cl,T.n_shut_by_sign⟩) rfl (gb_dict T.mdict (ac rfl (e8 rfl (bm rfl (by kernel_rfl)) (cY (by kernel_rfl)) (fun _=>rfl) (bP (gvl 3)) (fun X0 hX0=>by obtain ⟨C0,fp0,pins0,s0,H0,rfl⟩:=hX0; exact (pnl 4 eR.nd)) aG (Or.inl ⟨rfl,rfl⟩) (fun X0 hX0=>by obtain ⟨C0,fp0,pins0,s0,H0,rfl⟩:=hX0; exact (jz (ac rfl (gvl 4) (ac rfl g_bl aj))))) aj)))
 (aa (gs_expr rfl (aS L_refuse_no_pair hr (by decide) rfl rfl rfl rfl (ac rfl (g_fld rfl (fun _=>⟨T.cl,T.n_row_by_sign⟩) (gvl 0)) (ac rfl (gvl 3) aj))))
 (aa (jw rfl (Or.inl rfl) rfl rfl (fun _=>⟨T.cl,T.n_sign_by_pair⟩) rfl (aS L_signs_by_pair hr (by decide) rfl rfl rfl rfl (ac rfl (g_fld rfl (fun _=>⟨T.cl,T.n_row_by_sign⟩) (gvl 0)) (ac rfl (g_fld rfl (fun _=>⟨T.cl,T.n_shut_by_sign⟩) (gvl 0)) aj))))
 (aa (gs_expr rfl (aS L_refuse_too_long hr (by decide) rfl rfl rfl rfl (ac rfl (aS L_full_lengths hr (by decide) rfl rfl rfl rfl (ac rfl (g_fld rfl (fun _=>⟨T.cl,T.n_row_by_sign⟩) (gvl 0)) aj)) aj)))
 af)))))))) ρ) (by decide)
noncomputable abbrev aQ:Stmt:=inClass (top 14) 2
theorem sc_Table_row : aO ["self", "sign"] ["self", "sign"] (ab aQ) := ⟨rfl, rfl, rfl, by decide +kernel, rfl, by decide +kernel, by decide +kernel⟩
theorem ok_Table_row {f : Addr} {fd : x6} (Fu : Fun K "row" "Table.row" aQ f fd) (T : Txt K mg C tk) : FnOk P w K mg base CX0 1 f fd ["self", "sign"] (spP (fun _ => C) bO) :=
 cS (cl:=fun _=>C) (M:=t0) (fn:=bX) (kk:=0) Fu sc_Table_row rfl rfl (fun cdv A outer s H E hr ρ=>(show GSs (cxOf CX0 P w K mg base _ _ (ab aQ) f cdv A outer s H E).nox (fun _=>C) t0 (ag aQ) bX.body from
 (aa (bw (g_get1 (hu9 (hu8 hr)) ⟨rfl,rfl,rfl,rfl⟩ (g_fld rfl (fun _=>⟨T.cl,T.n_row_by_sign⟩) (gvl 0)) (gvl 1)))
 af)) ρ)
noncomputable abbrev cO:Stmt:=top 2
theorem iW : aO ["table", "text", "told", "sign", "row"] ["table", "text"] (ab cO) := ⟨rfl, rfl, rfl, by decide +kernel, rfl, by decide +kernel, by decide +kernel⟩
theorem ok_once {f : Addr} {fd : x6} (Fu : Fun K "once" "once" cO f fd) (T : Txt K mg C tk) (L_Table_row : LnkM P w K mg base (fun _ => C) C "row" 1 ["self", "sign"] bO) : FnOk P w K mg base CX0 2 f fd ["table", "text"] (spP (fun _ => C) r_once) :=
 cS (cl:=fun _=>C) (M:=t5) (fn:=f_once) (kk:=1) Fu iW rfl rfl (fun cdv A outer s H E hr ρ=>(show GSs (cxOf CX0 P w K mg base _ _ (ab cO) f cdv A outer s H E).nox (fun _=>C) t5 (ag cO) f_once.body from
 (aa (gsl 2 iW.nd (cL aj))
 (aa (eG xb rfl (fun _=>rfl) (bP (gvl 1)) (pnl 3 iW.nd) aG (aa (gsl 4 iW.nd (g_methL L_Table_row (fun _=>rfl) T.cl hr (by decide) rfl rfl rfl (gvl 0) (ac rfl (gvl 3) aj)))
 (aa (cq (aU (o:=.isN) (hu8 hr) rfl (gvl 4) g_non) (aa (cQ (fun h=>bn (dE zx yl yj aW (pvl 2) (bc h bT))) (gvl 3))
 af) (aa (gs_ext (fun h=>bn (dE zx qk qj mt_ext (pvl 2) (bc h bT))) (gvl 4))
 af))
 af)))
 (aa (bw (gvl 2))
 af)))) ρ)
noncomputable abbrev bH:Stmt:=top 3
theorem dM : aO ["table", "text", "told", "waiting", "sign", "row"] ["table", "text"] (ab bH) := ⟨rfl, rfl, rfl, by decide +kernel, rfl, by decide +kernel, by decide +kernel⟩
theorem ok_opened {f : Addr} {fd : x6} (Fu : Fun K "opened" "opened" bH f fd) (T : Txt K mg C tk) (L_Table_row : LnkM P w K mg base (fun _ => C) C "row" 1 ["self", "sign"] bO) : FnOk P w K mg base CX0 2 f fd ["table", "text"] (spP (fun _ => C) du) :=
 cS (cl:=fun _=>C) (M:=t5) (fn:=gm) (kk:=1) Fu dM rfl rfl (fun cdv A outer s H E hr ρ=>(show GSs (cxOf CX0 P w K mg base _ _ (ab bH) f cdv A outer s H E).nox (fun _=>C) t5 (ag bH) gm.body from
 (aa (gsl 2 dM.nd (cL aj))
 (aa (gsl 3 dM.nd (g_rev (gvl 1)))
 (aa (gs_whl xb (dy (gvl 3) (fun _=>rfl)) (aa (gs_pop (i:=4) (j:=3) dM.nd rfl (Or.inl rfl) rfl (Or.inl rfl) (pe_bm0 zx PySem.F.slot_list_pop PySem.F.type_list_pop mt_pop (pvl 3)))
 (aa (gsl 5 dM.nd (g_methL L_Table_row (fun _=>rfl) T.cl hr (by decide) rfl rfl rfl (gvl 0) (ac rfl (gvl 4) aj)))
 (aa (cq (aU (o:=.isN) (hu8 hr) rfl (gvl 5) g_non) (aa (cQ (fun h=>bn (dE zx yl yj aW (pvl 2) (bc h bT))) (gvl 4))
 af) (aa (gs_ext (fun h=>bn (dE zx qk qj mt_ext (pvl 3) (bc h bT))) (g_rev (gvl 5)))
 af))
 af))))
 (aa (bw (gvl 2))
 af))))) ρ)
noncomputable abbrev cj:Stmt:=top 4
theorem d8 : aO ["table", "text", "times", "current", "sign"] ["table", "text"] (ab cj) := ⟨rfl, rfl, rfl, by decide +kernel, rfl, by decide +kernel, by decide +kernel⟩
theorem ok_depth {f : Addr} {fd : x6} (Fu : Fun K "depth" "depth" cj f fd) (T : Txt K mg C tk) (L_Table_row : LnkM P w K mg base (fun _ => C) C "row" 1 ["self", "sign"] bO) (L_once : Lnk P w K mg base (fun _ => C) "once" 2 ["table", "text"] r_once) : FnOk P w K mg base CX0 3 f fd ["table", "text"] (spP (fun _ => C) gC) :=
 cS (cl:=fun _=>C) (M:=t20) (fn:=f_depth) (kk:=2) Fu d8 rfl rfl (fun cdv A outer s H E hr ρ=>(show GSs (cxOf CX0 P w K mg base _ _ (ab cj) f cdv A outer s H E).nox (fun _=>C) t20 (ag cj) f_depth.body from
 (aa (gsl 2 d8.nd aq)
 (aa (gsl 3 d8.nd (gvl 1))
 (aa (gs_whl xb (dy (gb_any T.many (ac rfl (e8 rfl (bm rfl (by kernel_rfl)) (cY (by kernel_rfl)) (fun _=>rfl) (bP (gvl 3)) (fun X0 hX0=>by obtain ⟨C0,fp0,pins0,s0,H0,rfl⟩:=hX0; exact (pnl 4 d8.nd)) aG (Or.inl ⟨rfl,rfl⟩) (fun X0 hX0=>by obtain ⟨C0,fp0,pins0,s0,H0,rfl⟩:=hX0; exact (g_cmpE (o:=.notN) (hu8 hr) rfl (g_methL L_Table_row (fun _=>rfl) T.cl hr (by decide) rfl rfl rfl (gvr 0) (ac rfl (gvl 4) aj)) g_non))) aj)) (fun _=>rfl)) (aa (gsl 3 d8.nd (aS L_once hr (by decide) rfl rfl rfl rfl (ac rfl (gvr 0) (ac rfl (gvl 3) aj))))
 (aa (gs_aug (i:=2) d8.nd rfl (Or.inl rfl) (Or.inl rfl))
 af)))
 (aa (bw (gvl 2))
 af))))) ρ)
noncomputable abbrev cf:Stmt:=top 23
theorem sc_l_nth : aO ["_law_script", "_law_k", "_law_cells"] ["_law_script", "_law_k"] (ab cf) := ⟨rfl, rfl, rfl, by decide +kernel, rfl, by decide +kernel, by decide +kernel⟩
theorem ok_l_nth {f : Addr} {fd : x6} (Fu : Fun K "_law_nth" "_law_nth" cf f fd) (T : Txt K mg C tk) : FnOk P w K mg base CX0 1 f fd ["_law_script", "_law_k"] (spP (fun _ => C) r_nth) :=
 cS (cl:=fun _=>C) (M:=t0) (fn:=jD) (kk:=0) Fu sc_l_nth rfl rfl (fun cdv A outer s H E hr ρ=>(show GSs (cxOf CX0 P w K mg base _ _ (ab cf) f cdv A outer s H E).nox (fun _=>C) t0 (ag cf) jD.body from
 (aa (gsl 2 sc_l_nth.nd (aB (op:=.add) (g_sl (gvl 0) (cF (gvl 1) rfl) (cF (aB (op:=.add) (gvl 1) aq) rfl)) (cL (ac rfl aq aj))))
 (aa (bw (g_ix (fun _ _=>rfl) (gvl 2) aq))
 af))) ρ)
noncomputable abbrev aZ:Stmt:=top 24
theorem sc_l_is_int : aO ["_law_thing"] ["_law_thing"] (ab aZ) := ⟨rfl, rfl, rfl, by decide +kernel, rfl, by decide +kernel, by decide +kernel⟩
theorem ok_l_is_int {f : Addr} {fd : x6} (Fu : Fun K "_law_is_int" "_law_is_int" aZ f fd) (T : Txt K mg C tk) : FnOk P w K mg base CX0 1 f fd ["_law_thing"] (spP (fun _ => C) eU) :=
 cS (cl:=fun _=>C) (M:=t0) (fn:=fD) (kk:=0) Fu sc_l_is_int rfl rfl (fun cdv A outer s H E hr ρ=>(show GSs (cxOf CX0 P w K mg base _ _ (ab aZ) f cdv A outer s H E).nox (fun _=>C) t0 (ag aZ) fD.body from
 (aa (cq (jv (gw_or ((g_isB (gvl 0)).2) (iq ((g_isB (gvl 0)).2)))) (aa (bw g_bl)
 af) af)
 (aa (bw (g_isi (T := "int") (isi_int K) rfl T.misinstance ff (by decide +kernel) rfl rfl T.mint bt_int (by decide +kernel) rfl rfl rfl rfl (gvl 0)))
 af))) ρ)
noncomputable abbrev cg:Stmt:=top 25
theorem sc_l_mix : aO ["_law_cell", "_law_k", "_law_by"] ["_law_cell", "_law_k", "_law_by"] (ab cg) := ⟨rfl, rfl, rfl, by decide +kernel, rfl, by decide +kernel, by decide +kernel⟩
theorem ok_l_mix {f : Addr} {fd : x6} (Fu : Fun K "_law_mix" "_law_mix" cg f fd) (T : Txt K mg C tk) : FnOk P w K mg base CX0 1 f fd ["_law_cell", "_law_k", "_law_by"] (spP (fun _ => C) r_mix) :=
 cS (cl:=fun _=>C) (M:=t0) (fn:=f_l_mix) (kk:=0) Fu sc_l_mix rfl rfl (fun cdv A outer s H E hr ρ=>(show GSs (cxOf CX0 P w K mg base _ _ (ab cg) f cdv A outer s H E).nox (fun _=>C) t0 (ag cg) f_l_mix.body from
 (aa (bw (aB (op:=.mod) (aB (op:=.add) (aB (op:=.add) (aB (op:=.mul) (gvl 0) (gvl 2)) (aB (op:=.mul) (gvl 1) aq)) aq) aq))
 af)) ρ)
noncomputable abbrev bJ:Stmt:=top 26
theorem sc_l_sign : aO ["_law_k", "_law_head", "_law_kind"] ["_law_k", "_law_head"] (ab bJ) := ⟨rfl, rfl, rfl, by decide +kernel, rfl, by decide +kernel, by decide +kernel⟩
theorem ok_l_sign {f : Addr} {fd : x6} (Fu : Fun K "_law_sign" "_law_sign" bJ f fd) (T : Txt K mg C tk) : FnOk P w K mg base CX0 1 f fd ["_law_k", "_law_head"] (spP (fun _ => C) K21.r_sign) :=
 cS (cl:=fun _=>C) (M:=t0) (fn:=K21.jC) (kk:=0) Fu sc_l_sign rfl rfl (fun cdv A outer s H E hr ρ=>(show GSs (cxOf CX0 P w K mg base _ _ (ab bJ) f cdv A outer s H E).nox (fun _=>C) t0 (ag bJ) K21.jC.body from
 (aa (gsl 2 sc_l_sign.nd (aB (op:=.mod) (aB (op:=.add) (gvl 0) (gvl 1)) aq))
 (aa (cq (aU (o:=.eq) (hu8 hr) rfl (gvl 2) aq) (aa (bw (aB (op:=.add) (gvl 0) (aB (op:=.mod) (aB (op:=.fdiv) (gvl 1) aq) aq)))
 af) af)
 (aa (cq (aU (o:=.eq) (hu8 hr) rfl (gvl 2) aq) (aa (bw (aB (op:=.sub) (aB (op:=.sub) (aB (op:=.pow) aq aq) aq) (aB (op:=.mul) aq (gvl 0))))
 af) af)
 (aa (bw (aB (op:=.add) (aB (op:=.mul) (aB (op:=.add) (gvl 0) aq) (aB (op:=.pow) aq aq)) (aB (op:=.mod) (aB (op:=.fdiv) (gvl 1) aq) (aB (op:=.pow) aq aq))))
 af))))) ρ)
noncomputable abbrev ce:Stmt:=top 27
theorem iX : aO ["_law_mix_here", "_law_k", "_law_i"] ["_law_mix_here", "_law_k"] (ab ce) := ⟨rfl, rfl, rfl, by decide +kernel, rfl, by decide +kernel, by decide +kernel⟩
theorem ok_l_row {f : Addr} {fd : x6} (Fu : Fun K "_law_row" "_law_row" ce f fd) (T : Txt K mg C tk) : FnOk P w K mg base CX0 1 f fd ["_law_mix_here", "_law_k"] (spP (fun _ => C) K21.r_row) :=
 cS (cl:=fun _=>C) (M:=t0) (fn:=K21.gS) (kk:=0) Fu iX rfl rfl (fun cdv A outer s H E hr ρ=>(show GSs (cxOf CX0 P w K mg base _ _ (ab ce) f cdv A outer s H E).nox (fun _=>C) t0 (ag ce) K21.gS.body from
 (aa (cq (jv (gw_or (aU (o:=.eq) (hu8 hr) rfl (gvl 1) aq) (iq (aU (o:=.lt) (hu8 hr) rfl (aB (op:=.mod) (gvl 0) aq) aq)))) (aa (bw (cL aj))
 af) af)
 (aa (gsl 2 iX.nd (aB (op:=.mod) (aB (op:=.fdiv) (gvl 0) aq) (gvl 1)))
 (aa (cq (aU (o:=.eq) (hu8 hr) rfl (aB (op:=.mod) (aB (op:=.fdiv) (gvl 0) aq) aq) aq) (aa (gsl 2 iX.nd (aB (op:=.sub) (gvl 1) aq))
 af) af)
 (aa (cq (aU (o:=.eq) (hu8 hr) rfl (aB (op:=.mod) (gvl 0) aq) aq) (aa (bw (cL (ac rfl (gvl 2) aj)))
 af) af)
 (aa (bw (cL (ac rfl (gvl 2) (ac rfl (aB (op:=.mod) (aB (op:=.fdiv) (gvl 0) aq) (gvl 1)) aj))))
 af)))))) ρ)
noncomputable abbrev bq:Stmt:=top 28
theorem aM : aO ["_law_cells", "_law_head", "_law_signs", "_law_ranks", "_law_rows", "_law_shuts", "_law_sizes", "_law_k", "_law_cell", "_law_mix_here", "_law_sign_here", "_law_row_here", "_law_size", "_law_i", "_law_taken", "_law_other"] ["_law_cells", "_law_head"] (ab bq) := ⟨rfl, rfl, rfl, by decide +kernel, rfl, by decide +kernel, by decide +kernel⟩
theorem ok_l_parts {f : Addr} {fd : x6} (Fu : Fun K "_law_parts" "_law_parts" bq f fd) (T : Txt K mg C tk) (L_l_mix : Lnk P w K mg base (fun _ => C) "_law_mix" 1 ["_law_cell", "_law_k", "_law_by"] r_mix) (L_l_sign : Lnk P w K mg base (fun _ => C) "_law_sign" 1 ["_law_k", "_law_head"] K21.r_sign) (L_l_row : Lnk P w K mg base (fun _ => C) "_law_row" 1 ["_law_mix_here", "_law_k"] K21.r_row) : FnOk P w K mg base CX0 2 f fd ["_law_cells", "_law_head"] (spP (fun _ => C) gB) :=
 cS (cl:=fun _=>C) (M:=t7) (fn:=cB) (kk:=1) Fu aM rfl rfl (fun cdv A outer s H E hr ρ=>(show GSs (cxOf CX0 P w K mg base _ _ (ab bq) f cdv A outer s H E).nox (fun _=>C) t7 (ag bq) cB.body from
 (aa (gsr 2 aM.nd (cL aj))
 (aa (gsl 3 aM.nd iw)
 (aa (gsr 4 aM.nd iw)
 (aa (gsr 5 aM.nd (cL aj))
 (aa (gsr 6 aM.nd (cL aj))
 (aa (eG xb rfl (fun _=>rfl) (gi_enum rfl T.menumerate fO rfl (gvl 0)) (pg_tup rfl (dw (pnl 7 aM.nd) (dw (pnl 8 aM.nd) pgs_nil)) rfl rfl) (jJ (tg:=[7,8])) (aa (gsl 9 aM.nd (aS L_l_mix hr (by decide) rfl rfl rfl rfl (ac rfl (gvl 8) (ac rfl (gvl 7) (ac rfl aq aj)))))
 (aa (gsl 10 aM.nd (aS L_l_sign hr (by decide) rfl rfl rfl rfl (ac rfl (gvl 7) (ac rfl (gvl 1) aj))))
 (aa (cQ (fun h=>bn (dE zx yl yj aW (pvr 2) (bc h bT))) (gvl 10))
 (aa (gsl 11 aM.nd (aS L_l_row hr (by decide) rfl rfl rfl rfl (ac rfl (gvl 9) (ac rfl (gvl 7) aj))))
 (aa (gsl 12 aM.nd (gb_sum T.msum (ac rfl (e8 rfl (bm rfl (by kernel_rfl)) (cY (by kernel_rfl)) (fun _=>rfl) (bP (gvl 11)) (fun X0 hX0=>by obtain ⟨C0,fp0,pins0,s0,H0,rfl⟩:=hX0; exact (pnl 13 aM.nd)) aG (Or.inl ⟨rfl,rfl⟩) (fun X0 hX0=>by obtain ⟨C0,fp0,pins0,s0,H0,rfl⟩:=hX0; exact (g_ix (fun _ _=>rfl) (gvr 6) (gvl 13)))) aj)))
 (aa (cq (jv (gw_or (aU (o:=.eq) (hu8 hr) rfl (gvl 11) (cL aj)) (iq (aU (o:=.gt) (hu8 hr) rfl (gvl 12) aq)))) (aa (cQ (fun h=>bn (dE zx yl yj aW (pvr 6) (bc h bT))) aq)
 (aa (cq (aU (o:=.gt) (hu8 hr) rfl (aB (op:=.mod) (aB (op:=.fdiv) (gvl 9) aq) aq) aq) (aa (iu (i:=3) (hu9 (hu8 hr)) rfl (Or.inl rfl) rfl rfl rfl (gvl 10) (g_ix (fun _ _=>rfl) (cL (ac rfl (aB (op:=.add) aq (aB (op:=.mod) (aB (op:=.fdiv) (gvl 9) aq) aq)) (ac rfl (aB (op:=.add) aq (aB (op:=.mod) (gvl 8) aq)) (ac rfl (aB (op:=.sub) aq (aB (op:=.mod) (gvl 8) aq)) aj)))) (aB (op:=.mod) (aB (op:=.fdiv) (gvl 9) aq) aq)))
 af) af)
 af)) (aa (cQ (fun h=>bn (dE zx yl yj aW (pvr 6) (bc h bT))) (gvl 12))
 (aa (gs_setCompD rfl aM.nd rfl (Or.inl rfl) (bm rfl (by kernel_rfl)) (cY (by kernel_rfl)) (fun _=>rfl) rfl (Or.inl rfl) (gvr 4) (fun X0 hX0=>by obtain ⟨C0,fp0,pins0,s0,H0,rfl⟩:=hX0; exact (pnl 15 aM.nd)) aG (Or.inr ⟨_,rfl,fun X0 hX0=>by obtain ⟨C0,fp0,pins0,s0,H0,rfl⟩:=hX0; exact (aU (o:=.nmem) (hu8 hr) rfl (gvl 15) (gvr 5))⟩) (fun X0 hX0=>by obtain ⟨C0,fp0,pins0,s0,H0,rfl⟩:=hX0; exact (eD (hu9 (hu8 hr)) (fun _ _=>rfl) (gvr 4) (gvl 15))))
 (aa (iu (i:=4) (hu9 (hu8 hr)) rfl (Or.inr (Or.inl rfl)) rfl rfl rfl (gvl 10) (gb_tuple T.mtuple (ac rfl (e8 rfl (bm rfl (by kernel_rfl)) (cY (by kernel_rfl)) (fun _=>rfl) (bP (gvl 11)) (fun X0 hX0=>by obtain ⟨C0,fp0,pins0,s0,H0,rfl⟩:=hX0; exact (pnl 13 aM.nd)) aG (Or.inl ⟨rfl,rfl⟩) (fun X0 hX0=>by obtain ⟨C0,fp0,pins0,s0,H0,rfl⟩:=hX0; exact (g_ix (fun _ _=>rfl) (gvr 2) (gvl 13)))) aj)))
 (aa (cq (jv (gw_and (aU (o:=.eq) (hu8 hr) rfl (e6 T.mlen (ac rfl (gvl 11) aj)) aq) (gw_and1 (jv (gw_or (aU (o:=.eq) (hu8 hr) rfl (aB (op:=.mod) (aB (op:=.fdiv) (gvl 9) aq) aq) aq) (iq (aU (o:=.mem) (hu8 hr) rfl (eD (hu9 (hu8 hr)) (fun _ _=>rfl) (gvr 4) (gvl 10)) (gvl 14)))))))) (aa (cQ (fun h=>bn (dE zx yl yj aW (pvr 5) (bc h bT))) (gvl 10))
 af) af)
 af)))))
 af)))))))
 (aa (bw (jz (ac rfl (gvr 2) (ac rfl (gvl 3) (ac rfl (gvr 4) (ac rfl (gvr 5) aj))))))
 af)))))))) ρ)
noncomputable abbrev bI:Stmt:=top 30
theorem dN : aO ["_law_cells", "_law_signs", "_law_by", "_law_found", "_law_k", "_law_cell", "_law_mix_here"] ["_law_cells", "_law_signs", "_law_by"] (ab bI) := ⟨rfl, rfl, rfl, by decide +kernel, rfl, by decide +kernel, by decide +kernel⟩
theorem ok_l_text {f : Addr} {fd : x6} (Fu : Fun K "_law_text" "_law_text" bI f fd) (T : Txt K mg C tk) (L_l_mix : Lnk P w K mg base (fun _ => C) "_law_mix" 1 ["_law_cell", "_law_k", "_law_by"] r_mix) : FnOk P w K mg base CX0 2 f fd ["_law_cells", "_law_signs", "_law_by"] (spP (fun _ => C) r_text) :=
 cS (cl:=fun _=>C) (M:=t21) (fn:=gn) (kk:=1) Fu dN rfl rfl (fun cdv A outer s H E hr ρ=>(show GSs (cxOf CX0 P w K mg base _ _ (ab bI) f cdv A outer s H E).nox (fun _=>C) t21 (ag bI) gn.body from
 (aa (gsl 3 dN.nd (cL aj))
 (aa (eG xb rfl (fun _=>rfl) (gi_enum rfl T.menumerate fO rfl (gvl 0)) (pg_tup rfl (dw (pnl 4 dN.nd) (dw (pnl 5 dN.nd) pgs_nil)) rfl rfl) (jJ (tg:=[4,5])) (aa (gsl 6 dN.nd (aS L_l_mix hr (by decide) rfl rfl rfl rfl (ac rfl (gvl 5) (ac rfl (gvl 4) (ac rfl (gvl 2) aj)))))
 (aa (cq (jv (gw_or (aU (o:=.eq) (hu8 hr) rfl (aB (op:=.mod) (gvl 6) aq) aq) (iq (aU (o:=.eq) (hu8 hr) rfl (gvl 1) (cL aj))))) (aa (cQ (fun h=>bn (dE zx yl yj aW (pvl 3) (bc h bT))) (aB (op:=.add) (aB (op:=.pow) aq aq) (aB (op:=.mod) (gvl 5) (aB (op:=.pow) aq aq))))
 af) (aa (cQ (fun h=>bn (dE zx yl yj aW (pvl 3) (bc h bT))) (g_ix (fun _ _=>rfl) (gvl 1) (aB (op:=.mod) (aB (op:=.fdiv) (gvl 6) aq) (e6 T.mlen (ac rfl (gvl 1) aj)))))
 af))
 af)))
 (aa (bw (gvl 3))
 af)))) ρ)
noncomputable abbrev aP:Stmt:=top 31
theorem fF : aO ["_law_found", "_law_sign_here"] ["_law_found"] (ab aP) := ⟨rfl, rfl, rfl, by decide +kernel, rfl, by decide +kernel, by decide +kernel⟩
theorem ok_l_is_text {f : Addr} {fd : x6} (Fu : Fun K "_law_is_text" "_law_is_text" aP f fd) (T : Txt K mg C tk) (L_l_is_int : Lnk P w K mg base (fun _ => C) "_law_is_int" 1 ["_law_thing"] eU) : FnOk P w K mg base CX0 2 f fd ["_law_found"] (spP (fun _ => C) dQ) :=
 cS (cl:=fun _=>C) (M:=t22) (fn:=eL) (kk:=1) Fu fF rfl rfl (fun cdv A outer s H E hr ρ=>(show GSs (cxOf CX0 P w K mg base _ _ (ab aP) f cdv A outer s H E).nox (fun _=>C) t22 (ag aP) eL.body from
 (aa (bw (g_and (g_isi (T := "list") (isi_list K) rfl T.misinstance ff (by decide +kernel) rfl rfl T.mlist jG (by decide +kernel) rfl rfl rfl rfl (gvl 0)) (g_one (gb_all T.mall (ac rfl (e8 rfl (bm rfl (by kernel_rfl)) (cY (by kernel_rfl)) (fun _ => rfl) (bP (gvl 0)) (fun X0 hX0 => by obtain ⟨C0, fp0, pins0, s0, H0, rfl⟩ := hX0; exact (pnl 1 fF.nd)) aG (Or.inl ⟨rfl, rfl⟩) (fun X0 hX0 => by obtain ⟨C0, fp0, pins0, s0, H0, rfl⟩ := hX0; exact (aS L_l_is_int hr (by decide) rfl rfl rfl rfl (ac rfl (gvl 1) aj)))) aj)))))
 af)) ρ)
noncomputable abbrev bp:Stmt:=top 29
theorem cr : aO ["_law_parts_here", "_law_turn", "_law_lists", "_law_sign_here", "_law_some", "_law_table_here"] ["_law_parts_here", "_law_turn"] (ab bp) := ⟨rfl, rfl, rfl, by decide +kernel, rfl, by decide +kernel, by decide +kernel⟩
theorem ok_l_table {f : Addr} {fd : x6} (Fu : Fun K "_law_table" "_law_table" bp f fd) (T : Txt K mg C tk) (L_Table_init : LnkI P w K mg base (fun _ => C) C "Table" 3 ["self", "marks", "rows", "shuts"] 0 dR) : FnOk P w K mg base CX0 5 f fd ["_law_parts_here", "_law_turn"] (spP (fun _ => C) K21.fm) :=
 cS (cl:=fun _=>C) (M:=t8) (fn:=K21.bj) (kk:=4) Fu cr rfl rfl (fun cdv A outer s H E hr ρ=>(show GSs (cxOf CX0 P w K mg base _ _ (ab bp) f cdv A outer s H E).nox (fun _=>C) t8 (ag bp) K21.bj.body from
 (aa (gsl 2 cr.nd (cL (ac rfl (jA rfl (bm rfl (by kernel_rfl)) (cY (by kernel_rfl)) (fun _=>rfl) (g_ix (fun _ _=>rfl) (gvr 0) aq) (fun X0 hX0=>by obtain ⟨C0,fp0,pins0,s0,H0,rfl⟩:=hX0; exact (pnl 3 cr.nd)) aG (Or.inl ⟨rfl,rfl⟩) (fun X0 hX0=>by obtain ⟨C0,fp0,pins0,s0,H0,rfl⟩:=hX0; exact (jz (ac rfl (gvl 3) (ac rfl (eD (hu9 (hu8 hr)) (fun _ _=>rfl) (g_ix (fun _ _=>rfl) (gvr 0) aq) (gvl 3)) aj))))) (ac rfl (jA rfl (bm rfl (by kernel_rfl)) (cY (by kernel_rfl)) (fun _=>rfl) (g_ix (fun _ _=>rfl) (gvr 0) aq) (fun X0 hX0=>by obtain ⟨C0,fp0,pins0,s0,H0,rfl⟩:=hX0; exact (pnl 3 cr.nd)) aG (Or.inl ⟨rfl,rfl⟩) (fun X0 hX0=>by obtain ⟨C0,fp0,pins0,s0,H0,rfl⟩:=hX0; exact (jz (ac rfl (gvl 3) (ac rfl (eD (hu9 (hu8 hr)) (fun _ _=>rfl) (g_ix (fun _ _=>rfl) (gvr 0) aq) (gvl 3)) aj))))) aj))))
 (aa (cQ (fun h=>bn (dE zx yl yj aW (pvl 2) (bc h bT))) (jy T.mlist (ac rfl (g_ix (fun _ _=>rfl) (gvr 0) aq) aj)))
 (aa (cq (aU (o:=.eq) (hu8 hr) rfl (aB (op:=.mod) (gvl 1) aq) aq) (aa (gs_eachRvs (ps_for xb rfl (pi_list (pvl 2)) (pnl 4 cr.nd) (pss_one (bn (pe_bm0 zx PySem.F.slot_list_reverse PySem.F.type_list_reverse mt_reverse (pvl 4)))) (fun _=>rfl)))
 af) af)
 (aa (gsl 5 cr.nd (g_makeL L_Table_init (fun _=>rfl) hr (by decide) rfl rfl rfl rfl (ac rfl (g_ix (fun _ _=>rfl) (gvl 2) aq) (ac rfl (g_ix (fun _ _=>rfl) (gvl 2) aq) (ac rfl (g_ix (fun _ _=>rfl) (gvl 2) aq) aj)))))
 (aa (gs_eachClr (ps_for xb rfl (pi_list (pvl 2)) (pnl 4 cr.nd) (pss_one (bn (pe_bm0 zx PySem.F.slot_list_clear PySem.F.type_list_clear mt_clear (pvl 4)))) (fun _=>rfl)))
 (aa (bw (gvl 5))
 af))))))) ρ)
noncomputable abbrev bK:Stmt:=top 32
theorem eQ : aO ["_law_rows", "_law_text_here", "_law_found", "_law_here", "_law_sign_here"] ["_law_rows", "_law_text_here"] (ab bK) := ⟨rfl, rfl, rfl, by decide +kernel, rfl, by decide +kernel, by decide +kernel⟩
theorem ok_l_bare {f : Addr} {fd : x6} (Fu : Fun K "_law_bare" "_law_bare" bK f fd) (T : Txt K mg C tk) : FnOk P w K mg base CX0 1 f fd ["_law_rows", "_law_text_here"] (spP (fun _ => C) gE) :=
 cS (cl:=fun _=>C) (M:=t0) (fn:=cZ) (kk:=0) Fu eQ rfl rfl (fun cdv A outer s H E hr ρ=>(show GSs (cxOf CX0 P w K mg base _ _ (ab bK) f cdv A outer s H E).nox (fun _=>C) t0 (ag bK) cZ.body from
 (aa (gsl 2 eQ.nd (cL aj))
 (aa (gsl 3 eQ.nd (g_lrev rfl rfl T.mlist jG rfl T.mreversed eM (by decide +kernel) rfl (by decide +kernel) rfl rfl rfl (gvl 1)))
 (aa (gs_whl xb (aU (o:=.ne) (hu8 hr) rfl (gvl 3) (cL aj)) (aa (gs_pop (i:=4) (j:=3) eQ.nd rfl (Or.inl rfl) rfl (Or.inl rfl) (pe_bm0 zx PySem.F.slot_list_pop PySem.F.type_list_pop mt_pop (pvl 3)))
 (aa (cq (aU (o:=.mem) (hu8 hr) rfl (gvl 4) (gvl 0)) (aa (gs_ext (fun h=>bn (dE zx qk qj mt_ext (pvl 3) (bc h bT))) (g_lrev rfl rfl T.mlist jG rfl T.mreversed eM (by decide +kernel) rfl (by decide +kernel) rfl rfl rfl (eD (hu9 (hu8 hr)) (fun _ _=>rfl) (gvl 0) (gvl 4))))
 af) (aa (cQ (fun h=>bn (dE zx yl yj aW (pvl 2) (bc h bT))) (gvl 4))
 af))
 af)))
 (aa (bw (gvl 2))
 af))))) ρ)
noncomputable abbrev br:Stmt:=top 33
theorem d7 : aO ["_law_rows", "_law_text_here", "_law_found", "_law_at", "_law_sign_here"] ["_law_rows", "_law_text_here"] (ab br) := ⟨rfl, rfl, rfl, by decide +kernel, rfl, by decide +kernel, by decide +kernel⟩
theorem ok_l_deeds {f : Addr} {fd : x6} (Fu : Fun K "_law_deeds" "_law_deeds" br f fd) (T : Txt K mg C tk) : FnOk P w K mg base CX0 1 f fd ["_law_rows", "_law_text_here"] (spP (fun _ => C) fo) :=
 cS (cl:=fun _=>C) (M:=t0) (fn:=dh) (kk:=0) Fu d7 rfl rfl (fun cdv A outer s H E hr ρ=>(show GSs (cxOf CX0 P w K mg base _ _ (ab br) f cdv A outer s H E).nox (fun _=>C) t0 (ag br) dh.body from
 (aa (gsl 2 d7.nd (cL aj))
 (aa (eG xb rfl (fun _=>rfl) (gi_range1 rfl T.mrange rfl (ac rfl (e6 T.mlen (ac rfl (gvl 1) aj)) aj)) (pnl 3 d7.nd) aG (aa (cq (aU (o:=.mem) (hu8 hr) rfl (g_ix (fun _ _=>rfl) (gvl 1) (gvl 3)) (gvl 0)) (aa (cQ (fun h=>bn (dE zx yl yj aW (pvl 2) (bc h bT))) (jz (ac rfl (gvl 3) (ac rfl aq (ac rfl (jy T.mlist (ac rfl (eD (hu9 (hu8 hr)) (fun _ _=>rfl) (gvl 0) (g_ix (fun _ _=>rfl) (gvl 1) (gvl 3))) aj)) aj)))))
 af) af)
 (aa (gs_forD xb rfl (fun _=>rfl) (gvl 0) (pnl 4 d7.nd) aG (aa (cq (aU (o:=.eq) (hu8 hr) rfl (gb_tuple T.mtuple (ac rfl (g_sl (gvl 1) (cF (gvl 3) rfl) (cF (aB (op:=.add) (gvl 3) (e6 T.mlen (ac rfl (eD (hu9 (hu8 hr)) (fun _ _=>rfl) (gvl 0) (gvl 4)) aj))) rfl)) aj)) (eD (hu9 (hu8 hr)) (fun _ _=>rfl) (gvl 0) (gvl 4))) (aa (cQ (fun h=>bn (dE zx yl yj aW (pvl 2) (bc h bT))) (jz (ac rfl (gvl 3) (ac rfl (e6 T.mlen (ac rfl (eD (hu9 (hu8 hr)) (fun _ _=>rfl) (gvl 0) (gvl 4)) aj)) (ac rfl (cL (ac rfl (gvl 4) aj)) aj)))))
 af) af)
 af))
 af)))
 (aa (bw (gvl 2))
 af)))) ρ)
noncomputable abbrev dJ:Stmt:=top 34
theorem ck : aO ["_law_script", "_law_head", "_law_size", "_law_parts_here", "_law_table_here", "_law_behind", "_law_sign_here", "_law_other", "_law_here", "_law_due", "_law_cell", "_law_some", "_law_at", "_law_many", "_law_new", "_law_told"] ["_law_script"] (ab dJ) := ⟨rfl, rfl, rfl, by decide +kernel, rfl, by decide +kernel, by decide +kernel⟩
theorem ok_law {f : Addr} {fd : x6} (Fu : Fun K "law" "law" dJ f fd) (T : Txt K mg C tk) (L_l_nth : Lnk P w K mg base (fun _ => C) "_law_nth" 1 ["_law_script", "_law_k"] r_nth) (L_l_parts : Lnk P w K mg base (fun _ => C) "_law_parts" 2 ["_law_cells", "_law_head"] gB) (L_l_table : Lnk P w K mg base (fun _ => C) "_law_table" 5 ["_law_parts_here", "_law_turn"] K21.fm) (L_Table_init : LnkI P w K mg base (fun _ => C) C "Table" 3 ["self", "marks", "rows", "shuts"] 0 dR) (L_l_text : Lnk P w K mg base (fun _ => C) "_law_text" 2 ["_law_cells", "_law_signs", "_law_by"] r_text) (L_l_bare : Lnk P w K mg base (fun _ => C) "_law_bare" 1 ["_law_rows", "_law_text_here"] gE) (L_l_deeds : Lnk P w K mg base (fun _ => C) "_law_deeds" 1 ["_law_rows", "_law_text_here"] fo) (L_opened : Lnk P w K mg base (fun _ => C) "opened" 2 ["table", "text"] du) (L_l_is_text : Lnk P w K mg base (fun _ => C) "_law_is_text" 2 ["_law_found"] dQ) (L_depth : Lnk P w K mg base (fun _ => C) "depth" 3 ["table", "text"] gC) : FnOk P w K mg base CX0 6 f fd ["_law_script"] (spP (fun _ => C) r_law) :=
 cS (cl:=fun _=>C) (M:=t28) (fn:=d3) (kk:=5) Fu ck rfl rfl (fun cdv A outer s H E hr ρ=>(show GSs (cxOf CX0 P w K mg base _ _ (ab dJ) f cdv A outer s H E).nox (fun _=>C) t28 (ag dJ) d3.body from
 (aa (gsl 1 ck.nd (aS L_l_nth hr (by decide) rfl rfl rfl rfl (ac rfl (gvl 0) (ac rfl aq aj))))
 (aa (gsl 2 ck.nd (aB (op:=.mod) (aS L_l_nth hr (by decide) rfl rfl rfl rfl (ac rfl (gvl 0) (ac rfl aq aj))) aq))
 (aa (gsl 3 ck.nd (aS L_l_parts hr (by decide) rfl rfl rfl rfl (ac rfl (g_sl (gvl 0) (cF aq rfl) (cF (aB (op:=.add) aq (gvl 2)) rfl)) (ac rfl (gvl 1) aj))))
 (aa (gsl 4 ck.nd (aS L_l_table hr (by decide) rfl rfl rfl rfl (ac rfl (gvl 3) (ac rfl (aB (op:=.fdiv) (gvl 1) aq) aj))))
 (aa (gsr 5 ck.nd iw)
 (aa (gs_lnd (j:=3) (gs_forD xb rfl (fun _=>rfl) (g_ix (fun _ _=>rfl) (gvl 3) aq) (pnl 6 ck.nd) aG (aa (iu (i:=5) (hu9 (hu8 hr)) rfl (Or.inr (Or.inl rfl)) rfl rfl rfl (gvl 6) (g_trev rfl rfl T.mtuple bt_tuple rfl T.mreversed eM (by decide +kernel) rfl (by decide +kernel) rfl rfl rfl (eD (hu9 (hu8 hr)) (fun _ _=>rfl) (g_ix (fun _ _=>rfl) (gvl 3) aq) (gvl 6))))
 af)))
 (aa (gsl 7 ck.nd (g_makeL L_Table_init (fun _=>rfl) hr (by decide) rfl rfl rfl rfl (ac rfl (cL aj) (ac rfl (jA rfl (bm rfl (by kernel_rfl)) (cY (by kernel_rfl)) (fun _=>rfl) (gvr 5) (fun X0 hX0=>by obtain ⟨C0,fp0,pins0,s0,H0,rfl⟩:=hX0; exact (pnl 6 ck.nd)) aG (Or.inl ⟨rfl,rfl⟩) (fun X0 hX0=>by obtain ⟨C0,fp0,pins0,s0,H0,rfl⟩:=hX0; exact (jz (ac rfl (gvl 6) (ac rfl (eD (hu9 (hu8 hr)) (fun _ _=>rfl) (gvr 5) (gvl 6)) aj))))) (ac rfl (jA rfl (bm rfl (by kernel_rfl)) (cY (by kernel_rfl)) (fun _=>rfl) (gvr 5) (fun X0 hX0=>by obtain ⟨C0,fp0,pins0,s0,H0,rfl⟩:=hX0; exact (pnl 6 ck.nd)) aG (Or.inr ⟨_,rfl,fun X0 hX0=>by obtain ⟨C0,fp0,pins0,s0,H0,rfl⟩:=hX0; exact (aU (o:=.eq) (hu8 hr) rfl (e6 T.mlen (ac rfl (eD (hu9 (hu8 hr)) (fun _ _=>rfl) (gvr 5) (gvl 6)) aj)) aq)⟩) (fun X0 hX0=>by obtain ⟨C0,fp0,pins0,s0,H0,rfl⟩:=hX0; exact (gvl 6))) aj)))))
 (aa (gsl 8 ck.nd (aS L_l_text hr (by decide) rfl rfl rfl rfl (ac rfl (g_sl (gvl 0) (cF (aB (op:=.add) aq (gvl 2)) rfl) (cF (aB (op:=.add) aq (gvl 2)) rfl)) (ac rfl (g_ix (fun _ _=>rfl) (gvl 3) aq) (ac rfl aq aj)))))
 (aa (gsl 9 ck.nd (aS L_l_bare hr (by decide) rfl rfl rfl rfl (ac rfl (g_ix (fun _ _=>rfl) (gvl 3) aq) (ac rfl (gvl 8) aj))))
 (aa (eG xb rfl (fun _=>rfl) (bP (aB (op:=.add) (cL (ac rfl aq aj)) (g_sl (gvl 0) (cF (aB (op:=.add) aq (gvl 2)) rfl) (cF (aB (op:=.add) aq (gvl 2)) rfl)))) (pnl 10 ck.nd) aG (aa (gsl 11 ck.nd (aS L_l_deeds hr (by decide) rfl rfl rfl rfl (ac rfl (g_ix (fun _ _=>rfl) (gvl 3) aq) (ac rfl (gvl 8) aj))))
 (aa (cq (aU (o:=.ne) (hu8 hr) rfl (gvl 11) (cL aj)) (gss_wth (is:=[12,13,14]) (j:=11) (pg_tup rfl (dw (pnl 12 ck.nd) (dw (pnl 13 ck.nd) (dw (pnl 14 ck.nd) pgs_nil))) rfl rfl) rfl rfl rfl (g_ix (fun _ _=>rfl) (gvl 11) (aB (op:=.mod) (gvl 10) (e6 T.mlen (ac rfl (gvl 11) aj))))
 (aa (gsl 8 ck.nd (aB (op:=.add) (aB (op:=.add) (g_sl (gvl 8) go_none (cF (gvl 12) rfl)) (gvl 14)) (g_sl (gvl 8) (cF (aB (op:=.add) (gvl 12) (gvl 13)) rfl) go_none)))
 af)) af)
 (aa (gsl 15 ck.nd (aS L_opened hr (by decide) rfl rfl rfl rfl (ac rfl (gvl 4) (ac rfl (jy T.mlist (ac rfl (gvl 8) aj)) aj))))
 (aa (cq (jv (gw_or (gt_not (dy (aS L_l_is_text hr (by decide) rfl rfl rfl rfl (ac rfl (gvl 15) aj)) (fun _=>rfl))) (iq (aU (o:=.ne) (hu8 hr) rfl (gvl 15) (gvl 9))))) (aa (bw g_bl)
 af) af)
 (aa (cq (jv (gw_and (aU (o:=.eq) (hu8 hr) rfl (aB (op:=.mod) (gvl 10) aq) aq) (gw_and1 (aU (o:=.ne) (hu8 hr) rfl (aS L_opened hr (by decide) rfl rfl rfl rfl (ac rfl (gvl 7) (ac rfl (jy T.mlist (ac rfl (gvl 8) aj)) aj))) (aS L_l_bare hr (by decide) rfl rfl rfl rfl (ac rfl (gvr 5) (ac rfl (gvl 8) aj))))))) (aa (bw g_bl)
 af) af)
 af))))))
 (aa (bw (g_and (g_cmpE (o:=.eq) (hu8 hr) rfl (aS L_depth hr (by decide) rfl rfl rfl rfl (ac rfl (gvl 4) (ac rfl (gvl 9) aj))) aq) (g_one (g_cmpE (o:=.eq) (hu8 hr) rfl (aS L_opened hr (by decide) rfl rfl rfl rfl (ac rfl (gvl 4) (ac rfl (gvl 9) aj))) (gvl 9)))))
 af)))))))))))) ρ)
end
end K24
namespace K24
open PySem PySem.Spec PyProof.Rows L2 Vi K12 K21 K22
open PySem (Str)
noncomputable def noLst (K : ze) : Bool := K.all fun p => match p.2.cls with | .type t => !(t == "list") | _ => true
theorem noLst_at {a : Addr} {o : Obj} {K : ze} : noLst K = true → K.lookup a = some o → o.cls ≠ .type "list" := by
 induction K with
 | nil=>intro _ h; injection h
 | cons p r ih =>
  obtain ⟨b,x⟩:=p
  intro hn h
  have hn : ((match x.cls with | .type t => !(t == "list") | _ => true) && noLst r) = true := hn
  rw [u0] at hn
  rw [yf] at h
  split at h
  ·injection h with h
   subst h
   intro z
   rw [z] at hn
   exact absurd hn.1 (by decide)
  ·exact ih hn.2 h
noncomputable def spL (K:ze):Sp:=fun vs H Q _=>∃ (a:Addr) (ns:List Int),vs=[.ref a]∧SqL K H a (ns.map V.int)∧ns.length≤63∧∀ H',Q (.bl true) H'
theorem law_sp {K:ze} {C:Addr} (hK:noLst K=true):∀ vs H Q E,spL K vs H Q E→spP (fun _=>C) r_law vs H Q E:=by
 rintro vs H Q E ⟨a,ns,rfl,hS,hl,q⟩
 refine ⟨[.lst (ns.map D.int)],[a],.bl true, ?_,law_true ns hl,fun v H' fp' _ r _ _=>?_⟩
 ·have h0:H a=some (.lst (ns.map V.int))∨∃ o,H a=some (.frz o (.lst (ns.map V.int))):=by
   rcases hS with h | ⟨o,its,n,h,hc,_⟩
   ·exact h
   ·exact absurd hc (noLst_at hK h)
  unfold RepL
  refine ⟨.ref a,[],[a],[],rfl,rfl, ?_,⟨rfl,rfl⟩⟩
  unfold Rep
  exact ⟨a,ns.map V.int,[],rfl,rfl,repL_ints ns,h0⟩
 ·rw [r.1]
  exact q H'
theorem usS {us:List Value} {n:Nat} (h:us.length=n+1):∃ x r,us=x::r∧r.length=n:=by
 cases us with
 | nil=>injection h
 | cons x r=>exact ⟨x,r,rfl,mn.inj h⟩
theorem us1 {us:List Value} (h:us.length=1):∃ x0,us=[x0]:=by
 obtain ⟨x,r,rfl,g⟩:=usS h
 exact ⟨x,by rw [List.eq_nil_of_length_eq_zero g]⟩
theorem us2 {us:List Value} (h:us.length=2):∃ x0 x1,us=[x0,x1]:=by
 obtain ⟨x0,r,rfl,g⟩:=usS h
 obtain ⟨x1,rfl⟩:=us1 g
 exact ⟨x0,x1,rfl⟩
theorem us3 {us:List Value} (h:us.length=3):∃ x0 x1 x2,us=[x0,x1,x2]:=by
 obtain ⟨x0,r,rfl,g⟩:=usS h
 obtain ⟨x1,x2,rfl⟩:=us2 g
 exact ⟨x0,x1,x2,rfl⟩
theorem us4 {us:List Value} (h:us.length=4):∃ x0 x1 x2 x3,us=[x0,x1,x2,x3]:=by
 obtain ⟨x0,r,rfl,g⟩:=usS h
 obtain ⟨x1,x2,x3,rfl⟩:=us3 g
 exact ⟨x0,x1,x2,x3,rfl⟩
theorem bd_repeated (kV doc pm : Value) (an : Option Addr) (cdv ct : Value) (us : List Value) (hl : us.length = (["signs"] : List Str).length) : wj (zp "repeated" "repeated" (am aY) (ag aY) (ab aY) .none kV doc pm an cdv ct) ⟨us, []⟩ = pure ((["signs"] : List Str).zip us) := by
 obtain ⟨x0,rfl⟩:=us1 hl
 rfl
theorem g6 (kV doc pm : Value) (an : Option Addr) (cdv ct : Value) (us : List Value) (hl : us.length = (["marks", "rows", "shuts"] : List Str).length) : wj (zp "refuse_twice" "refuse_twice" (am ay) (ag ay) (ab ay) .none kV doc pm an cdv ct) ⟨us, []⟩ = pure ((["marks", "rows", "shuts"] : List Str).zip us) := by
 obtain ⟨x0,x1,x2,rfl⟩:=us3 hl
 rfl
theorem fE (kV doc pm : Value) (an : Option Addr) (cdv ct : Value) (us : List Value) (hl : us.length = (["row_by_sign", "shuts"] : List Str).length) : wj (zp "refuse_no_pair" "refuse_no_pair" (am au) (ag au) (ab au) .none kV doc pm an cdv ct) ⟨us, []⟩ = pure ((["row_by_sign", "shuts"] : List Str).zip us) := by
 obtain ⟨x0,x1,rfl⟩:=us2 hl
 rfl
theorem ga (kV doc pm : Value) (an : Option Addr) (cdv ct : Value) (us : List Value) (hl : us.length = (["row_by_sign", "shut_by_sign"] : List Str).length) : wj (zp "signs_by_pair" "signs_by_pair" (am aw) (ag aw) (ab aw) .none kV doc pm an cdv ct) ⟨us, []⟩ = pure ((["row_by_sign", "shut_by_sign"] : List Str).zip us) := by
 obtain ⟨x0,x1,rfl⟩:=us2 hl
 rfl
theorem g7 (kV doc pm : Value) (an : Option Addr) (cdv ct : Value) (us : List Value) (hl : us.length = (["row_by_sign"] : List Str).length) : wj (zp "full_lengths" "full_lengths" (am az) (ag az) (ab az) .none kV doc pm an cdv ct) ⟨us, []⟩ = pure ((["row_by_sign"] : List Str).zip us) := by
 obtain ⟨x0,rfl⟩:=us1 hl
 rfl
theorem fg (kV doc pm : Value) (an : Option Addr) (cdv ct : Value) (us : List Value) (hl : us.length = (["lengths"] : List Str).length) : wj (zp "refuse_too_long" "refuse_too_long" (am ar) (ag ar) (ab ar) .none kV doc pm an cdv ct) ⟨us, []⟩ = pure ((["lengths"] : List Str).zip us) := by
 obtain ⟨x0,rfl⟩:=us1 hl
 rfl
theorem jL (kV doc pm : Value) (an : Option Addr) (cdv ct : Value) (us : List Value) (hl : us.length = (["self", "marks", "rows", "shuts"] : List Str).length) : wj (zp "__init__" "Table.__init__" (am aH) (ag aH) (ab aH) .none kV doc pm an cdv ct) ⟨us, []⟩ = pure ((["self", "marks", "rows", "shuts"] : List Str).zip us) := by
 obtain ⟨x0,x1,x2,x3,rfl⟩:=us4 hl
 rfl
theorem bd_Table_row (kV doc pm : Value) (an : Option Addr) (cdv ct : Value) (us : List Value) (hl : us.length = (["self", "sign"] : List Str).length) : wj (zp "row" "Table.row" (am aQ) (ag aQ) (ab aQ) .none kV doc pm an cdv ct) ⟨us, []⟩ = pure ((["self", "sign"] : List Str).zip us) := by
 obtain ⟨x0,x1,rfl⟩:=us2 hl
 rfl
theorem bd_once (kV doc pm : Value) (an : Option Addr) (cdv ct : Value) (us : List Value) (hl : us.length = (["table", "text"] : List Str).length) : wj (zp "once" "once" (am cO) (ag cO) (ab cO) .none kV doc pm an cdv ct) ⟨us, []⟩ = pure ((["table", "text"] : List Str).zip us) := by
 obtain ⟨x0,x1,rfl⟩:=us2 hl
 rfl
theorem bd_opened (kV doc pm : Value) (an : Option Addr) (cdv ct : Value) (us : List Value) (hl : us.length = (["table", "text"] : List Str).length) : wj (zp "opened" "opened" (am bH) (ag bH) (ab bH) .none kV doc pm an cdv ct) ⟨us, []⟩ = pure ((["table", "text"] : List Str).zip us) := by
 obtain ⟨x0,x1,rfl⟩:=us2 hl
 rfl
theorem bd_depth (kV doc pm : Value) (an : Option Addr) (cdv ct : Value) (us : List Value) (hl : us.length = (["table", "text"] : List Str).length) : wj (zp "depth" "depth" (am cj) (ag cj) (ab cj) .none kV doc pm an cdv ct) ⟨us, []⟩ = pure ((["table", "text"] : List Str).zip us) := by
 obtain ⟨x0,x1,rfl⟩:=us2 hl
 rfl
theorem bd_l_nth (kV doc pm : Value) (an : Option Addr) (cdv ct : Value) (us : List Value) (hl : us.length = (["_law_script", "_law_k"] : List Str).length) : wj (zp "_law_nth" "_law_nth" (am cf) (ag cf) (ab cf) .none kV doc pm an cdv ct) ⟨us, []⟩ = pure ((["_law_script", "_law_k"] : List Str).zip us) := by
 obtain ⟨x0,x1,rfl⟩:=us2 hl
 rfl
theorem bd_l_is_int (kV doc pm : Value) (an : Option Addr) (cdv ct : Value) (us : List Value) (hl : us.length = (["_law_thing"] : List Str).length) : wj (zp "_law_is_int" "_law_is_int" (am aZ) (ag aZ) (ab aZ) .none kV doc pm an cdv ct) ⟨us, []⟩ = pure ((["_law_thing"] : List Str).zip us) := by
 obtain ⟨x0,rfl⟩:=us1 hl
 rfl
theorem bd_l_mix (kV doc pm : Value) (an : Option Addr) (cdv ct : Value) (us : List Value) (hl : us.length = (["_law_cell", "_law_k", "_law_by"] : List Str).length) : wj (zp "_law_mix" "_law_mix" (am cg) (ag cg) (ab cg) .none kV doc pm an cdv ct) ⟨us, []⟩ = pure ((["_law_cell", "_law_k", "_law_by"] : List Str).zip us) := by
 obtain ⟨x0,x1,x2,rfl⟩:=us3 hl
 rfl
theorem bd_l_sign (kV doc pm : Value) (an : Option Addr) (cdv ct : Value) (us : List Value) (hl : us.length = (["_law_k", "_law_head"] : List Str).length) : wj (zp "_law_sign" "_law_sign" (am bJ) (ag bJ) (ab bJ) .none kV doc pm an cdv ct) ⟨us, []⟩ = pure ((["_law_k", "_law_head"] : List Str).zip us) := by
 obtain ⟨x0,x1,rfl⟩:=us2 hl
 rfl
theorem bd_l_row (kV doc pm : Value) (an : Option Addr) (cdv ct : Value) (us : List Value) (hl : us.length = (["_law_mix_here", "_law_k"] : List Str).length) : wj (zp "_law_row" "_law_row" (am ce) (ag ce) (ab ce) .none kV doc pm an cdv ct) ⟨us, []⟩ = pure ((["_law_mix_here", "_law_k"] : List Str).zip us) := by
 obtain ⟨x0,x1,rfl⟩:=us2 hl
 rfl
theorem bd_l_parts (kV doc pm : Value) (an : Option Addr) (cdv ct : Value) (us : List Value) (hl : us.length = (["_law_cells", "_law_head"] : List Str).length) : wj (zp "_law_parts" "_law_parts" (am bq) (ag bq) (ab bq) .none kV doc pm an cdv ct) ⟨us, []⟩ = pure ((["_law_cells", "_law_head"] : List Str).zip us) := by
 obtain ⟨x0,x1,rfl⟩:=us2 hl
 rfl
theorem bd_l_text (kV doc pm : Value) (an : Option Addr) (cdv ct : Value) (us : List Value) (hl : us.length = (["_law_cells", "_law_signs", "_law_by"] : List Str).length) : wj (zp "_law_text" "_law_text" (am bI) (ag bI) (ab bI) .none kV doc pm an cdv ct) ⟨us, []⟩ = pure ((["_law_cells", "_law_signs", "_law_by"] : List Str).zip us) := by
 refine zz fun P_ k_=>?_
 obtain ⟨x0,x1,x2,rfl⟩:=us3 hl
 refine k_ ?_
 rfl
theorem bd_l_is_text (kV doc pm : Value) (an : Option Addr) (cdv ct : Value) (us : List Value) (hl : us.length = (["_law_found"] : List Str).length) : wj (zp "_law_is_text" "_law_is_text" (am aP) (ag aP) (ab aP) .none kV doc pm an cdv ct) ⟨us, []⟩ = pure ((["_law_found"] : List Str).zip us) := by
 obtain ⟨x0,rfl⟩:=us1 hl
 rfl
theorem bd_l_table (kV doc pm : Value) (an : Option Addr) (cdv ct : Value) (us : List Value) (hl : us.length = (["_law_parts_here", "_law_turn"] : List Str).length) : wj (zp "_law_table" "_law_table" (am bp) (ag bp) (ab bp) .none kV doc pm an cdv ct) ⟨us, []⟩ = pure ((["_law_parts_here", "_law_turn"] : List Str).zip us) := by
 obtain ⟨x0,x1,rfl⟩:=us2 hl
 rfl
theorem bd_l_bare (kV doc pm : Value) (an : Option Addr) (cdv ct : Value) (us : List Value) (hl : us.length = (["_law_rows", "_law_text_here"] : List Str).length) : wj (zp "_law_bare" "_law_bare" (am bK) (ag bK) (ab bK) .none kV doc pm an cdv ct) ⟨us, []⟩ = pure ((["_law_rows", "_law_text_here"] : List Str).zip us) := by
 obtain ⟨x0,x1,rfl⟩:=us2 hl
 rfl
theorem bd_l_deeds (kV doc pm : Value) (an : Option Addr) (cdv ct : Value) (us : List Value) (hl : us.length = (["_law_rows", "_law_text_here"] : List Str).length) : wj (zp "_law_deeds" "_law_deeds" (am br) (ag br) (ab br) .none kV doc pm an cdv ct) ⟨us, []⟩ = pure ((["_law_rows", "_law_text_here"] : List Str).zip us) := by
 obtain ⟨x0,x1,rfl⟩:=us2 hl
 rfl
theorem all_mk {l : PySem.W.OpenLaw} {w : World} {K : ze} {h : Heap} {mg : Str → Option Value} {fa C f1 f2 f3 f4 f5 f6 f7 f8 f9 f10 f11 f12 f13 f14 f15 f16 f17 f18 f19 f20 f21 f22 f23 : Addr} {tk : Tok} (X : K.In h) (G : h.Ns y7 mg) (hfa : mg "law" = some (.ref fa)) (hK : noLst K = true)
  {od1 an1 od2 an2 od3 an3 od4 an4 od5 an5 od6 an6 od7 an7 od8 an8 od9 an9 od10 an10 od11 an11 od12 an12 od13 an13 od14 an14 od15 an15 od16 an16 od17 an17 od18 an18 od19 an19 od20 an20 od21 an21 od22 an22 od23 an23:Option Addr} {sl1 sl2 sl3 sl4 sl5 sl6 sl7 sl8 sl9 sl10 sl11 sl12 sl13 sl14 sl15 sl16 sl17 sl18 sl19 sl20 sl21 sl22 sl23:Array (Option Value)} {oc1 kV1 dc1 pm1 cd1 ct1 oc2 kV2 dc2 pm2 cd2 ct2 oc3 kV3 dc3 pm3 cd3 ct3 oc4 kV4 dc4 pm4 cd4 ct4 oc5 kV5 dc5 pm5 cd5 ct5 oc6 kV6 dc6 pm6 cd6 ct6 oc7 kV7 dc7 pm7 cd7 ct7 oc8 kV8 dc8 pm8 cd8 ct8 oc9 kV9 dc9 pm9 cd9 ct9 oc10 kV10 dc10 pm10 cd10 ct10 oc11 kV11 dc11 pm11 cd11 ct11 oc12 kV12 dc12 pm12 cd12 ct12 oc13 kV13 dc13 pm13 cd13 ct13 oc14 kV14 dc14 pm14 cd14 ct14 oc15 kV15 dc15 pm15 cd15 ct15 oc16 kV16 dc16 pm16 cd16 ct16 oc17 kV17 dc17 pm17 cd17 ct17 oc18 kV18 dc18 pm18 cd18 ct18 oc19 kV19 dc19 pm19 cd19 ct19 oc20 kV20 dc20 pm20 cd20 ct20 oc21 kV21 dc21 pm21 cd21 ct21 oc22 kV22 dc22 pm22 cd22 ct22 oc23 kV23 dc23 pm23 cd23 ct23:Value}
  (aC : yg K y7 "Table" = some (some (.ref C)))
  (a1 : yg K y7 "repeated" = some (some (.ref f1)))
  (l1 : K.lookup f1 = some ⟨oc1, od1, .func (zp "repeated" "repeated" (am aY) (ag aY) (ab aY) .none kV1 dc1 pm1 an1 cd1 ct1), sl1⟩)
  (c1 : yo K cd1 "repeated" = true)
  (k1:yb K (.ref f1)=true)
  (a2 : yg K y7 "refuse_twice" = some (some (.ref f2)))
  (l2 : K.lookup f2 = some ⟨oc2, od2, .func (zp "refuse_twice" "refuse_twice" (am ay) (ag ay) (ab ay) .none kV2 dc2 pm2 an2 cd2 ct2), sl2⟩)
  (c2 : yo K cd2 "refuse_twice" = true)
  (k2:yb K (.ref f2)=true)
  (a3 : yg K y7 "refuse_no_pair" = some (some (.ref f3)))
  (l3 : K.lookup f3 = some ⟨oc3, od3, .func (zp "refuse_no_pair" "refuse_no_pair" (am au) (ag au) (ab au) .none kV3 dc3 pm3 an3 cd3 ct3), sl3⟩)
  (c3 : yo K cd3 "refuse_no_pair" = true)
  (k3:yb K (.ref f3)=true)
  (a4 : yg K y7 "signs_by_pair" = some (some (.ref f4)))
  (l4 : K.lookup f4 = some ⟨oc4, od4, .func (zp "signs_by_pair" "signs_by_pair" (am aw) (ag aw) (ab aw) .none kV4 dc4 pm4 an4 cd4 ct4), sl4⟩)
  (c4 : yo K cd4 "signs_by_pair" = true)
  (k4:yb K (.ref f4)=true)
  (a5 : yg K y7 "full_lengths" = some (some (.ref f5)))
  (l5 : K.lookup f5 = some ⟨oc5, od5, .func (zp "full_lengths" "full_lengths" (am az) (ag az) (ab az) .none kV5 dc5 pm5 an5 cd5 ct5), sl5⟩)
  (c5 : yo K cd5 "full_lengths" = true)
  (k5:yb K (.ref f5)=true)
  (a6 : yg K y7 "refuse_too_long" = some (some (.ref f6)))
  (l6 : K.lookup f6 = some ⟨oc6, od6, .func (zp "refuse_too_long" "refuse_too_long" (am ar) (ag ar) (ab ar) .none kV6 dc6 pm6 an6 cd6 ct6), sl6⟩)
  (c6 : yo K cd6 "refuse_too_long" = true)
  (k6:yb K (.ref f6)=true)
  (a7 : xk K (.ref C) "__init__" = some (some (.ref f7)))
  (i7:n8 K (.ref f7)=true)
  (l7 : K.lookup f7 = some ⟨oc7, od7, .func (zp "__init__" "Table.__init__" (am aH) (ag aH) (ab aH) .none kV7 dc7 pm7 an7 cd7 ct7), sl7⟩)
  (c7 : yo K cd7 "Table.__init__" = true)
  (k7:yb K (.ref f7)=true)
  (a8 : xk K (.ref C) "row" = some (some (.ref f8)))
  (i8:n8 K (.ref f8)=true)
  (l8 : K.lookup f8 = some ⟨oc8, od8, .func (zp "row" "Table.row" (am aQ) (ag aQ) (ab aQ) .none kV8 dc8 pm8 an8 cd8 ct8), sl8⟩)
  (c8 : yo K cd8 "Table.row" = true)
  (k8:yb K (.ref f8)=true)
  (a9 : yg K y7 "once" = some (some (.ref f9)))
  (l9 : K.lookup f9 = some ⟨oc9, od9, .func (zp "once" "once" (am cO) (ag cO) (ab cO) .none kV9 dc9 pm9 an9 cd9 ct9), sl9⟩)
  (c9 : yo K cd9 "once" = true)
  (k9:yb K (.ref f9)=true)
  (a10 : yg K y7 "opened" = some (some (.ref f10)))
  (l10 : K.lookup f10 = some ⟨oc10, od10, .func (zp "opened" "opened" (am bH) (ag bH) (ab bH) .none kV10 dc10 pm10 an10 cd10 ct10), sl10⟩)
  (c10 : yo K cd10 "opened" = true)
  (k10:yb K (.ref f10)=true)
  (a11 : yg K y7 "depth" = some (some (.ref f11)))
  (l11 : K.lookup f11 = some ⟨oc11, od11, .func (zp "depth" "depth" (am cj) (ag cj) (ab cj) .none kV11 dc11 pm11 an11 cd11 ct11), sl11⟩)
  (c11 : yo K cd11 "depth" = true)
  (k11:yb K (.ref f11)=true)
  (a12 : yg K y7 "_law_nth" = some (some (.ref f12)))
  (l12 : K.lookup f12 = some ⟨oc12, od12, .func (zp "_law_nth" "_law_nth" (am cf) (ag cf) (ab cf) .none kV12 dc12 pm12 an12 cd12 ct12), sl12⟩)
  (c12 : yo K cd12 "_law_nth" = true)
  (k12:yb K (.ref f12)=true)
  (a13 : yg K y7 "_law_is_int" = some (some (.ref f13)))
  (l13 : K.lookup f13 = some ⟨oc13, od13, .func (zp "_law_is_int" "_law_is_int" (am aZ) (ag aZ) (ab aZ) .none kV13 dc13 pm13 an13 cd13 ct13), sl13⟩)
  (c13 : yo K cd13 "_law_is_int" = true)
  (k13:yb K (.ref f13)=true)
  (a14 : yg K y7 "_law_mix" = some (some (.ref f14)))
  (l14 : K.lookup f14 = some ⟨oc14, od14, .func (zp "_law_mix" "_law_mix" (am cg) (ag cg) (ab cg) .none kV14 dc14 pm14 an14 cd14 ct14), sl14⟩)
  (c14 : yo K cd14 "_law_mix" = true)
  (k14:yb K (.ref f14)=true)
  (a15 : yg K y7 "_law_sign" = some (some (.ref f15)))
  (l15 : K.lookup f15 = some ⟨oc15, od15, .func (zp "_law_sign" "_law_sign" (am bJ) (ag bJ) (ab bJ) .none kV15 dc15 pm15 an15 cd15 ct15), sl15⟩)
  (c15 : yo K cd15 "_law_sign" = true)
  (k15:yb K (.ref f15)=true)
  (a16 : yg K y7 "_law_row" = some (some (.ref f16)))
  (l16 : K.lookup f16 = some ⟨oc16, od16, .func (zp "_law_row" "_law_row" (am ce) (ag ce) (ab ce) .none kV16 dc16 pm16 an16 cd16 ct16), sl16⟩)
  (c16 : yo K cd16 "_law_row" = true)
  (k16:yb K (.ref f16)=true)
  (a17 : yg K y7 "_law_parts" = some (some (.ref f17)))
  (l17 : K.lookup f17 = some ⟨oc17, od17, .func (zp "_law_parts" "_law_parts" (am bq) (ag bq) (ab bq) .none kV17 dc17 pm17 an17 cd17 ct17), sl17⟩)
  (c17 : yo K cd17 "_law_parts" = true)
  (k17:yb K (.ref f17)=true)
  (a18 : yg K y7 "_law_text" = some (some (.ref f18)))
  (l18 : K.lookup f18 = some ⟨oc18, od18, .func (zp "_law_text" "_law_text" (am bI) (ag bI) (ab bI) .none kV18 dc18 pm18 an18 cd18 ct18), sl18⟩)
  (c18 : yo K cd18 "_law_text" = true)
  (k18:yb K (.ref f18)=true)
  (a19 : yg K y7 "_law_is_text" = some (some (.ref f19)))
  (l19 : K.lookup f19 = some ⟨oc19, od19, .func (zp "_law_is_text" "_law_is_text" (am aP) (ag aP) (ab aP) .none kV19 dc19 pm19 an19 cd19 ct19), sl19⟩)
  (c19 : yo K cd19 "_law_is_text" = true)
  (k19:yb K (.ref f19)=true)
  (a20 : yg K y7 "_law_table" = some (some (.ref f20)))
  (l20 : K.lookup f20 = some ⟨oc20, od20, .func (zp "_law_table" "_law_table" (am bp) (ag bp) (ab bp) .none kV20 dc20 pm20 an20 cd20 ct20), sl20⟩)
  (c20 : yo K cd20 "_law_table" = true)
  (k20:yb K (.ref f20)=true)
  (a21 : yg K y7 "_law_bare" = some (some (.ref f21)))
  (l21 : K.lookup f21 = some ⟨oc21, od21, .func (zp "_law_bare" "_law_bare" (am bK) (ag bK) (ab bK) .none kV21 dc21 pm21 an21 cd21 ct21), sl21⟩)
  (c21 : yo K cd21 "_law_bare" = true)
  (k21:yb K (.ref f21)=true)
  (a22 : yg K y7 "_law_deeds" = some (some (.ref f22)))
  (l22 : K.lookup f22 = some ⟨oc22, od22, .func (zp "_law_deeds" "_law_deeds" (am br) (ag br) (ab br) .none kV22 dc22 pm22 an22 cd22 ct22), sl22⟩)
  (c22 : yo K cd22 "_law_deeds" = true)
  (k22:yb K (.ref f22)=true)
  (a23 : yg K y7 "law" = some (some (.ref f23)))
  (l23 : K.lookup f23 = some ⟨oc23, od23, .func (zp "law" "law" (am dJ) (ag dJ) (ab dJ) .none kV23 dc23 pm23 an23 cd23 ct23), sl23⟩)
  (c23 : yo K cd23 "law" = true)
  (k23:yb K (.ref f23)=true)
  (pg:rh K C Str.empty=true)
  (hd:p7 K C=true)
  (po:m5 K C=true)
  (sa : xk K (.ref C) "__setattr__" = some (some (.builtin "object.__setattr__")))
  (mk:PySem.W.makesIn K C=true)
  (kc:yb K (.ref C)=true)
  (n_rank_by_sign : xk K (.ref C) "rank_by_sign" = some none)
  (n_row_by_sign : xk K (.ref C) "row_by_sign" = some none)
  (n_shut_by_sign : xk K (.ref C) "shut_by_sign" = some none)
  (n_sign_by_pair : xk K (.ref C) "sign_by_pair" = some none)
  (z_len : yg K y7 "len" = some none)
  (z_sorted : yg K y7 "sorted" = some none)
  (z_sum : yg K y7 "sum" = some none)
  (z_any : yg K y7 "any" = some none)
  (z_all : yg K y7 "all" = some none)
  (z_list : yg K y7 "list" = some none)
  (z_tuple : yg K y7 "tuple" = some none)
  (z_dict : yg K y7 "dict" = some none)
  (z_isinstance : yg K y7 "isinstance" = some none)
  (z_int : yg K y7 "int" = some none)
  (z_range : yg K y7 "range" = some none)
  (z_enumerate : yg K y7 "enumerate" = some none)
  (z_reversed : yg K y7 "reversed" = some none)
  (aL : yg K y7 "LONGEST" = some (some (.int 16 tk))) :
  ∃ fd : x6, (∀ (s : Shared) (v : Value), BindsTo s fd ⟨[v], []⟩ [("_law_script", v)]) ∧ ∀ base : Heap, K.In base → base.Ns y7 mg → FnOk l.prog w K mg base CX0 6 fa fd ["_law_script"] (spL K) := by
 have e:=hfa.symm.trans (x5 X G a23)
 cases e
 have T:Txt K mg C tk:=⟨⟨pg,hd,po,sa⟩,n_rank_by_sign,n_row_by_sign,n_shut_by_sign,n_sign_by_pair,xh X G z_len,xh X G z_sorted,xh X G z_sum,xh X G z_any,xh X G z_all,xh X G z_list,xh X G z_tuple,xh X G z_dict,xh X G z_isinstance,xh X G z_int,xh X G z_range,xh X G z_enumerate,xh X G z_reversed,x5 X G aL⟩
 have F1:=bN (st:=aY) l1 c1 k1
 have b1 := F1.binds (ps := ["signs"]) bd_repeated
 have F2:=bN (st:=ay) l2 c2 k2
 have b2 := F2.binds (ps := ["marks", "rows", "shuts"]) g6
 have F3:=bN (st:=au) l3 c3 k3
 have b3 := F3.binds (ps := ["row_by_sign", "shuts"]) fE
 have F4:=bN (st:=aw) l4 c4 k4
 have b4 := F4.binds (ps := ["row_by_sign", "shut_by_sign"]) ga
 have F5:=bN (st:=az) l5 c5 k5
 have b5 := F5.binds (ps := ["row_by_sign"]) g7
 have F6:=bN (st:=ar) l6 c6 k6
 have b6 := F6.binds (ps := ["lengths"]) fg
 have F7:=bN (st:=aH) l7 c7 k7
 have b7 := F7.binds (ps := ["self", "marks", "rows", "shuts"]) jL
 have F8:=bN (st:=aQ) l8 c8 k8
 have b8 := F8.binds (ps := ["self", "sign"]) bd_Table_row
 have F9:=bN (st:=cO) l9 c9 k9
 have b9 := F9.binds (ps := ["table", "text"]) bd_once
 have F10:=bN (st:=bH) l10 c10 k10
 have b10 := F10.binds (ps := ["table", "text"]) bd_opened
 have F11:=bN (st:=cj) l11 c11 k11
 have b11 := F11.binds (ps := ["table", "text"]) bd_depth
 have F12:=bN (st:=cf) l12 c12 k12
 have b12 := F12.binds (ps := ["_law_script", "_law_k"]) bd_l_nth
 have F13:=bN (st:=aZ) l13 c13 k13
 have b13 := F13.binds (ps := ["_law_thing"]) bd_l_is_int
 have F14:=bN (st:=cg) l14 c14 k14
 have b14 := F14.binds (ps := ["_law_cell", "_law_k", "_law_by"]) bd_l_mix
 have F15:=bN (st:=bJ) l15 c15 k15
 have b15 := F15.binds (ps := ["_law_k", "_law_head"]) bd_l_sign
 have F16:=bN (st:=ce) l16 c16 k16
 have b16 := F16.binds (ps := ["_law_mix_here", "_law_k"]) bd_l_row
 have F17:=bN (st:=bq) l17 c17 k17
 have b17 := F17.binds (ps := ["_law_cells", "_law_head"]) bd_l_parts
 have F18:=bN (st:=bI) l18 c18 k18
 have b18 := F18.binds (ps := ["_law_cells", "_law_signs", "_law_by"]) bd_l_text
 have F19:=bN (st:=aP) l19 c19 k19
 have b19 := F19.binds (ps := ["_law_found"]) bd_l_is_text
 have F20:=bN (st:=bp) l20 c20 k20
 have b20 := F20.binds (ps := ["_law_parts_here", "_law_turn"]) bd_l_table
 have F21:=bN (st:=bK) l21 c21 k21
 have b21 := F21.binds (ps := ["_law_rows", "_law_text_here"]) bd_l_bare
 have F22:=bN (st:=br) l22 c22 k22
 have b22 := F22.binds (ps := ["_law_rows", "_law_text_here"]) bd_l_deeds
 have F23:=bN (st:=dJ) l23 c23 k23
 refine ⟨zp "law" "law" (am dJ) (ag dJ) (ab dJ) .none kV23 dc23 pm23 an23 cd23 ct23, fun s v => .of_eq rfl, fun base _ _ => ?_⟩
 have O1:=ok_repeated (P:=l.prog) (w:=w) (base:=base) F1 T
 have L_repeated : Lnk l.prog w K mg base (fun _ => C) "repeated" _ ["signs"] de := ⟨f1, _, O1, x5 X G a1, k1, b1⟩
 have O2:=gG (P:=l.prog) (w:=w) (base:=base) F2 T L_repeated
 have L_refuse_twice : Lnk l.prog w K mg base (fun _ => C) "refuse_twice" _ ["marks", "rows", "shuts"] bR := ⟨f2, _, O2, x5 X G a2, k2, b2⟩
 have O3:=ft (P:=l.prog) (w:=w) (base:=base) F3 T
 have L_refuse_no_pair : Lnk l.prog w K mg base (fun _ => C) "refuse_no_pair" _ ["row_by_sign", "shuts"] bE := ⟨f3, _, O3, x5 X G a3, k3, b3⟩
 have O4:=fV (P:=l.prog) (w:=w) (base:=base) F4 T
 have L_signs_by_pair : Lnk l.prog w K mg base (fun _ => C) "signs_by_pair" _ ["row_by_sign", "shut_by_sign"] bM := ⟨f4, _, O4, x5 X G a4, k4, b4⟩
 have O5:=gH (P:=l.prog) (w:=w) (base:=base) F5 T
 have L_full_lengths : Lnk l.prog w K mg base (fun _ => C) "full_lengths" _ ["row_by_sign"] bS := ⟨f5, _, O5, x5 X G a5, k5, b5⟩
 have O6:=eY (P:=l.prog) (w:=w) (base:=base) F6 T
 have L_refuse_too_long : Lnk l.prog w K mg base (fun _ => C) "refuse_too_long" _ ["lengths"] bv := ⟨f6, _, O6, x5 X G a6, k6, b6⟩
 have O7:=jf (P:=l.prog) (w:=w) (base:=base) F7 T L_refuse_twice L_refuse_no_pair L_signs_by_pair L_refuse_too_long L_full_lengths
 have L_Table_init : LnkI l.prog w K mg base (fun _ => C) C "Table" _ ["self", "marks", "rows", "shuts"] 0 dR := ⟨f7, _, O7, ⟨mk, a7, i7, kc⟩, x5 X G aC, b7⟩
 have O8:=ok_Table_row (P:=l.prog) (w:=w) (base:=base) F8 T
 have L_Table_row : LnkM l.prog w K mg base (fun _ => C) C "row" _ ["self", "sign"] bO := ⟨f8, _, O8, ⟨a8, i8, k8⟩, b8⟩
 have O9:=ok_once (P:=l.prog) (w:=w) (base:=base) F9 T L_Table_row
 have L_once : Lnk l.prog w K mg base (fun _ => C) "once" _ ["table", "text"] r_once := ⟨f9, _, O9, x5 X G a9, k9, b9⟩
 have O10:=ok_opened (P:=l.prog) (w:=w) (base:=base) F10 T L_Table_row
 have L_opened : Lnk l.prog w K mg base (fun _ => C) "opened" _ ["table", "text"] du := ⟨f10, _, O10, x5 X G a10, k10, b10⟩
 have O11:=ok_depth (P:=l.prog) (w:=w) (base:=base) F11 T L_Table_row L_once
 have L_depth : Lnk l.prog w K mg base (fun _ => C) "depth" _ ["table", "text"] gC := ⟨f11, _, O11, x5 X G a11, k11, b11⟩
 have O12:=ok_l_nth (P:=l.prog) (w:=w) (base:=base) F12 T
 have L_l_nth : Lnk l.prog w K mg base (fun _ => C) "_law_nth" _ ["_law_script", "_law_k"] r_nth := ⟨f12, _, O12, x5 X G a12, k12, b12⟩
 have O13:=ok_l_is_int (P:=l.prog) (w:=w) (base:=base) F13 T
 have L_l_is_int : Lnk l.prog w K mg base (fun _ => C) "_law_is_int" _ ["_law_thing"] eU := ⟨f13, _, O13, x5 X G a13, k13, b13⟩
 have O14:=ok_l_mix (P:=l.prog) (w:=w) (base:=base) F14 T
 have L_l_mix : Lnk l.prog w K mg base (fun _ => C) "_law_mix" _ ["_law_cell", "_law_k", "_law_by"] r_mix := ⟨f14, _, O14, x5 X G a14, k14, b14⟩
 have O15:=ok_l_sign (P:=l.prog) (w:=w) (base:=base) F15 T
 have L_l_sign : Lnk l.prog w K mg base (fun _ => C) "_law_sign" _ ["_law_k", "_law_head"] K21.r_sign := ⟨f15, _, O15, x5 X G a15, k15, b15⟩
 have O16:=ok_l_row (P:=l.prog) (w:=w) (base:=base) F16 T
 have L_l_row : Lnk l.prog w K mg base (fun _ => C) "_law_row" _ ["_law_mix_here", "_law_k"] K21.r_row := ⟨f16, _, O16, x5 X G a16, k16, b16⟩
 have O17:=ok_l_parts (P:=l.prog) (w:=w) (base:=base) F17 T L_l_mix L_l_sign L_l_row
 have L_l_parts : Lnk l.prog w K mg base (fun _ => C) "_law_parts" _ ["_law_cells", "_law_head"] gB := ⟨f17, _, O17, x5 X G a17, k17, b17⟩
 have O18:=ok_l_text (P:=l.prog) (w:=w) (base:=base) F18 T L_l_mix
 have L_l_text : Lnk l.prog w K mg base (fun _ => C) "_law_text" _ ["_law_cells", "_law_signs", "_law_by"] r_text := ⟨f18, _, O18, x5 X G a18, k18, b18⟩
 have O19:=ok_l_is_text (P:=l.prog) (w:=w) (base:=base) F19 T L_l_is_int
 have L_l_is_text : Lnk l.prog w K mg base (fun _ => C) "_law_is_text" _ ["_law_found"] dQ := ⟨f19, _, O19, x5 X G a19, k19, b19⟩
 have O20:=ok_l_table (P:=l.prog) (w:=w) (base:=base) F20 T L_Table_init
 have L_l_table : Lnk l.prog w K mg base (fun _ => C) "_law_table" _ ["_law_parts_here", "_law_turn"] K21.fm := ⟨f20, _, O20, x5 X G a20, k20, b20⟩
 have O21:=ok_l_bare (P:=l.prog) (w:=w) (base:=base) F21 T
 have L_l_bare : Lnk l.prog w K mg base (fun _ => C) "_law_bare" _ ["_law_rows", "_law_text_here"] gE := ⟨f21, _, O21, x5 X G a21, k21, b21⟩
 have O22:=ok_l_deeds (P:=l.prog) (w:=w) (base:=base) F22 T
 have L_l_deeds : Lnk l.prog w K mg base (fun _ => C) "_law_deeds" _ ["_law_rows", "_law_text_here"] fo := ⟨f22, _, O22, x5 X G a22, k22, b22⟩
 exact FnOk.imp (ok_law (P:=l.prog) (w:=w) (base:=base) F23 T L_l_nth L_l_parts L_l_table L_Table_init L_l_text L_l_bare L_l_deeds L_opened L_l_is_text L_depth) (law_sp hK)
theorem walk {l:PySem.W.OpenLaw} {q:yp} {loose:List Str} {XP:(Str→Option Value)→Heap→Prop} {YP:World→Heap→Prop} {d:DefRec} {K:Params→ze} (hn:l.most=some 63) (hdf:d.params.defaults=[])
  (hY:∀ (w:World) (h:Heap),YP w h→(K w.params).In h)
  (F:∀ (w:World) (mg:Str→Option Value) (fa:Addr) (h:Heap),(K w.params).In h→h.Ns y7 mg→mg d.name=some (.ref fa) →
   ∃ fd : x6, (∀ (s : Shared) (u : Value), BindsTo s fd ⟨[u], []⟩ [("_law_script", u)]) ∧ ∀ base : Heap, (K w.params).In base → base.Ns y7 mg → FnOk l.prog w (K w.params) mg base CX0 6 fa fd ["_law_script"] (spL (K w.params))) :
  PySem.W.WalkO q loose XP YP l.row.toRowW d [] (fun f vs=>PySem.call f vs) :=
 L2.walk_of (n := 63) (k := 6) (x := "_law_script") (CX := fun _ => CX0) (sp := fun w => spL (K w.params)) hn (by decide) hdf ⟨rfl, by decide, by decide⟩ hY F (fun _ _ a ns hl _ hS => ⟨a, ns, rfl, hS, hl, fun _ => rfl⟩) fun _ _ _ _ _ z => z
end K24
open PySem PySem.W PyProof.Rows
set_option maxRecDepth 100000 in
set_option maxHeartbeats 0 in
theorem PySem.Challenge.cw_signforms_k24_whole_any_turn_of_openings_holds : PySem.Challenge.rw_signforms_k24_whole_any_turn_of_openings.Holds := by
 w_on; o_law; k_head; (case hw=>w_witness2)
 k_fill
 refine K24.walk (l:=PySem.Challenge.rw_signforms_k24_whole_any_turn_of_openings) rfl rfl (fun w h Y=>PySem.W.kIn_of Y) ?F
 case F =>
  intro w mg fa h KX G hmg
  refine' K24.all_mk KX G hmg ?hK ?aC ?a1 ?l1 ?c1 ?k1 ?a2 ?l2 ?c2 ?k2 ?a3 ?l3 ?c3 ?k3 ?a4 ?l4 ?c4 ?k4 ?a5 ?l5 ?c5 ?k5 ?a6 ?l6 ?c6 ?k6 ?a7 ?i7 ?l7 ?c7 ?k7 ?a8 ?i8 ?l8 ?c8 ?k8 ?a9 ?l9 ?c9 ?k9 ?a10 ?l10 ?c10 ?k10 ?a11 ?l11 ?c11 ?k11 ?a12 ?l12 ?c12 ?k12 ?a13 ?l13 ?c13 ?k13 ?a14 ?l14 ?c14 ?k14 ?a15 ?l15 ?c15 ?k15 ?a16 ?l16 ?c16 ?k16 ?a17 ?l17 ?c17 ?k17 ?a18 ?l18 ?c18 ?k18 ?a19 ?l19 ?c19 ?k19 ?a20 ?l20 ?c20 ?k20 ?a21 ?l21 ?c21 ?k21 ?a22 ?l22 ?c22 ?k22 ?a23 ?l23 ?c23 ?k23 ?pg ?hd ?po ?sa ?mk ?kc ?n_rank_by_sign ?n_row_by_sign ?n_shut_by_sign ?n_sign_by_pair ?z_len ?z_sorted ?z_sum ?z_any ?z_all ?z_list ?z_tuple ?z_dict ?z_isinstance ?z_int ?z_range ?z_enumerate ?z_reversed ?aL
  (case aC=>k_is)
  (case a1=>k_is)
  (case l1=>k_is)
  (case c1=>k_is)
  (case k1=>k_is)
  (case a2=>k_is)
  (case l2=>k_is)
  (case c2=>k_is)
  (case k2=>k_is)
  (case a3=>k_is)
  (case l3=>k_is)
  (case c3=>k_is)
  (case k3=>k_is)
  (case a4=>k_is)
  (case l4=>k_is)
  (case c4=>k_is)
  (case k4=>k_is)
  (case a5=>k_is)
  (case l5=>k_is)
  (case c5=>k_is)
  (case k5=>k_is)
  (case a6=>k_is)
  (case l6=>k_is)
  (case c6=>k_is)
  (case k6=>k_is)
  (case a7=>k_is)
  (case i7=>k_is)
  (case l7=>k_is)
  (case c7=>k_is)
  (case k7=>k_is)
  (case a8=>k_is)
  (case i8=>k_is)
  (case l8=>k_is)
  (case c8=>k_is)
  (case k8=>k_is)
  (case a9=>k_is)
  (case l9=>k_is)
  (case c9=>k_is)
  (case k9=>k_is)
  (case a10=>k_is)
  (case l10=>k_is)
  (case c10=>k_is)
  (case k10=>k_is)
  (case a11=>k_is)
  (case l11=>k_is)
  (case c11=>k_is)
  (case k11=>k_is)
  (case a12=>k_is)
  (case l12=>k_is)
  (case c12=>k_is)
  (case k12=>k_is)
  (case a13=>k_is)
  (case l13=>k_is)
  (case c13=>k_is)
  (case k13=>k_is)
  (case a14=>k_is)
  (case l14=>k_is)
  (case c14=>k_is)
  (case k14=>k_is)
  (case a15=>k_is)
  (case l15=>k_is)
  (case c15=>k_is)
  (case k15=>k_is)
  (case a16=>k_is)
  (case l16=>k_is)
  (case c16=>k_is)
  (case k16=>k_is)
  (case a17=>k_is)
  (case l17=>k_is)
  (case c17=>k_is)
  (case k17=>k_is)
  (case a18=>k_is)
  (case l18=>k_is)
  (case c18=>k_is)
  (case k18=>k_is)
  (case a19=>k_is)
  (case l19=>k_is)
  (case c19=>k_is)
  (case k19=>k_is)
  (case a20=>k_is)
  (case l20=>k_is)
  (case c20=>k_is)
  (case k20=>k_is)
  (case a21=>k_is)
  (case l21=>k_is)
  (case c21=>k_is)
  (case k21=>k_is)
  (case a22=>k_is)
  (case l22=>k_is)
  (case c22=>k_is)
  (case k22=>k_is)
  (case a23=>k_is)
  (case l23=>k_is)
  (case c23=>k_is)
  (case k23=>k_is)
  (case pg=>k_is)
  (case hd=>k_is)
  (case po=>k_is)
  (case sa=>k_is)
  (case mk=>k_is)
  (case kc=>k_is)
  (case n_rank_by_sign=>k_is)
  (case n_row_by_sign=>k_is)
  (case n_shut_by_sign=>k_is)
  (case n_sign_by_pair=>k_is)
  (case z_len=>k_is)
  (case z_sorted=>k_is)
  (case z_sum=>k_is)
  (case z_any=>k_is)
  (case z_all=>k_is)
  (case z_list=>k_is)
  (case z_tuple=>k_is)
  (case z_dict=>k_is)
  (case z_isinstance=>k_is)
  (case z_int=>k_is)
  (case z_range=>k_is)
  (case z_enumerate=>k_is)
  (case z_reversed=>k_is)
  (case aL=>k_is)
  (case hK=>kernel_rfl)
