import PyProof.Rows.All
import Wide.All
import OpenK.AllK
import Wide.FinOn
import HandS.TupMul
import HandS.RaiseMore
import HandS.SortInts
import HandS.Conv
import HandS.SetKeys
import HandS.ForMost
import KE.KDictKeyed
import HandS.ForExc
import HandS.Deep
import HandS.Flow
import HandS.TupAny
import HandS.Strs
import HandS.Lambda
import HandS.IsInst
import HandS.ExcIs
import HandS.DictComp
import KE.GoesEnum
import KE.DataMinMax
import KE.DatumOrd
import HandS.HotCalls
import HandS.Style
import HandS.SetFor
import HandS.Text
import HandS.CallLocal
import HandS.WordsDict
import PyProof.Rows.SeqMore
import HandS.SortRule
import PyProof.CallFns
import HandS.TryMany
import HandS.AnyAll
import PyProof.GenCompD
import HandS.TupLe
import KE.KNestM
import HandS.EndBits
import HandS.Zip
import HandS.Zip0
import HandS.Nested
import KE.SortData
import HandS.TupSets
import PySem.Challenge.RW_scarp_k29_freest_stands
set_option Elab.async false
set_option linter.all false
set_option maxRecDepth 100000
set_option maxHeartbeats 4000000
noncomputable section
namespace DL
open PySem PySem.Spec PyProof.Rows L2
def TupX (K : PySem.W.Frag) (H : Hp) (a : Addr) (xs : List V) : Prop :=
  (∃ o : Obj, H a = some (.frz o (.tup xs)) ∧ o.dict = none) ∨
    ∃ (o : Obj) (its : Array Value) (n : Nat), K.lookup a = some o ∧ o.cls = .type "tuple" ∧ o.dict = none ∧ o.data = .seq its n ∧ its.size ≤ sizeLine ∧ Vals xs its.toList
theorem TupX.old {K : PySem.W.Frag} {H : Hp} {a : Addr} {xs : List V} (h : TupX K H a xs) : SqT K H a xs := by
  rcases h with ⟨o, e, _⟩ | ⟨o, its, n, h1, h2, _, h3⟩
  · exact .inl (.inr ⟨o, e⟩)
  · exact .inr ⟨o, its, n, h1, h2, h3⟩
def tupO (its : List Value) : Obj := { cls := .type "tuple", data := .seq its.toArray }
def NewT (H : Hp) (Q : VK) (xs : List V) : Prop := ∀ (p : Addr) (o : Obj), H p = none → o.dict = none → Q (.ref p) (upd H p (.frz o (.tup xs)))
section
variable {X : Cx} {pins : List (Addr × Obj)} {σ : L2.St} {H : Hp} {s : Shared}
theorem Inv.laidT {xs : List V} {its : List Value} (I : L2.Inv X pins σ H s) (r : Vals xs its) (hz : xs.length ≤ sizeLine) :
    L2.Inv X pins σ (upd H s.heap.objs.size (.frz (tupO its) (.tup xs))) { s with heap := s.heap.push (tupO its) } :=
  I.laid (t' := s.toks) (o := .frz (tupO its) (.tup xs)) (fun _ _ e => Heap.get?_push_of_some _ e) (Nat.le_refl _) ⟨Heap.get?_push_size _ rfl, hz, its, r, IsTup.new _ _⟩
theorem Inv.laidE {Q : VK} {xs : List V} {its : List Value} (I : L2.Inv X pins σ H s) (r : Vals xs its) (hz : xs.length ≤ sizeLine) (q : NewT H Q xs) :
    EP X pins σ Q (.ref s.heap.objs.size) { s with heap := s.heap.push (tupO its) } :=
  ⟨.ref s.heap.objs.size, _, Inv.laidT I r hz, rfl, q _ _ (I.hok.fresh (Nat.le_refl _)) rfl⟩
end
/-- (a, b) -/
def tTupX (t : TA) : TE := fun σ H Q => t σ H fun xs H1 => xs.length ≤ sizeLine ∧ NewT H1 Q xs
theorem pe_tupX {X : Cx} {es : List Expr} {t : TA} {pos : Pos} {c} (h : PA X es t) : PE X (.Tuple es c pos) (tTupX t) := by
  constructor
  intro pins s σ H Q I hq
  apply wpAny_Tuple_spliced
  refine thn (h.run pos pins s σ H _ I hq) ?_
  rintro us s1 ⟨xs, H1, J, r, z, q⟩
  exact ⟨r.length ▸ z, Inv.laidE J r z q⟩
/-- tuple(x) -/
def rTupleX (K : PySem.W.Frag) : List V → Hp → VK → Prop := fun vs H Q => ∃ p xs, vs = [.ref p] ∧ ((SqL K H p xs ∧ NewT H Q xs) ∨ (SqT K H p xs ∧ Q (.ref p) H))
theorem cr_tupleX {X : Cx} : CallR X (.type "tuple") (rTupleX X.K) := by
  rintro pins s σ H vs us Q I r ⟨p, xs, rfl, h⟩
  rw [Vals.ref1 r]
  rcases h with ⟨hl, q⟩ | ⟨ht, q⟩
  · obtain ⟨its, rv, il, hz⟩ := I.list hl
    have le : xs.length ≤ sizeLine := by
      have := rv.length
      omega
    refine call_tuple_list il.isList (fun h' keep => ?_) (by rw [List.size_toArray, ← rv.length]; exact le)
    exact Inv.laidE (Q := Q) (I.kept (t' := s.toks) keep) rv le q
  · obtain ⟨its, _, it, _⟩ := I.tuple ht
    exact call_tuple_same it ⟨.ref p, H, I, rfl, q⟩
/-- t + u -/
def rCatX (K : PySem.W.Frag) : R2 := fun x y H Q => ∃ a b xs ys, x = .ref a ∧ y = .ref b ∧ SqT K H a xs ∧ SqT K H b ys ∧ xs.length + ys.length ≤ sizeLine ∧
  (xs = [] → Q (.ref b) H) ∧ (xs ≠ [] → ys = [] → Q (.ref a) H) ∧ (xs ≠ [] → ys ≠ [] → NewT H Q (xs ++ ys))
theorem op_catX {X : Cx} : OpR X (binaryOp .Add) (rCatX X.K) := by
  rintro pins s σ H x y v u Q I rx ry ⟨a, b, xs, ys, rfl, rfl, ha, hb, hz, q0, q1, q2⟩
  cases rx
  cases ry
  obtain ⟨i1, r1, p1, _⟩ := I.tuple ha
  obtain ⟨i2, r2, p2, _⟩ := I.tuple hb
  by_cases hx : xs = []
  · subst hx
    cases r1
    exact cat_tup0 p1 p2 ⟨.ref b, H, I, rfl, q0 rfl⟩
  · refine HT.cat_tup p1 p2 (fun e => hx (r1.nil_iff.mp e)) (fun e => ⟨.ref a, H, I, rfl, q1 hx (r2.nil_iff.mp e)⟩) (fun e => ?_) (by rw [← r1.length, ← r2.length]; exact hz)
    exact Inv.laidE (Q := Q) I (r1.append r2) (by rw [List.length_append]; exact hz) (q2 hx fun w => e (r2.nil_iff.mpr w))
/-- t[lo:hi] -/
def rSlX (K : PySem.W.Frag) : V → Option Int → Option Int → Hp → VK → Prop := fun x lo hi H Q => ∃ a xs, x = .ref a ∧ SqT K H a xs ∧
  (HT.sIx xs.length 0 lo = 0 ∧ HT.sIx xs.length xs.length hi = xs.length → Q (.ref a) H) ∧ (¬ (HT.sIx xs.length 0 lo = 0 ∧ HT.sIx xs.length xs.length hi = xs.length) → NewT H Q (cutV xs lo hi))
theorem sl_tupX {X : Cx} : SlR X (rSlX X.K) := by
  rintro pins s σ H x v vl vu lo hi sl Q I rx hs pl pu ⟨a, xs, rfl, hx, q1, q2⟩
  cases rx
  obtain ⟨its, r, ht, hz⟩ := I.tuple hx
  have len : its.toArray.size = xs.length := by rw [List.size_toArray]; exact r.length.symm
  refine ⟨"tuple", _, PyProof.Rows.slot_tuple_getitem.lookup, ht.typeIs, ?_⟩
  by_cases hw : HT.sIx xs.length 0 lo = 0 ∧ HT.sIx xs.length xs.length hi = xs.length
  · exact getItem_tuple_whole ht hs pl pu (by rw [len]; exact hw) ⟨.ref a, H, I, rfl, q1 hw⟩
  · refine HT.getItem_tuple_cut ht hs pl pu (by rw [len]; exact hw) ?_ (by rw [len]; exact hz)
    rw [len]
    exact Inv.laidE (Q := Q) I ((r.drop (HT.sIx xs.length 0 lo)).take (HT.sIx xs.length xs.length hi - HT.sIx xs.length 0 lo)) (Nat.le_trans (cutV_length xs lo hi) hz) (q2 hw)
/-- t.index(x) and the like -/
def tBMX (K : PySem.W.Frag) (r : V → List V → Hp → VK → Prop) (to : TE) (t : TA) : TE := fun σ H Q => to σ H fun x H1 => (∃ p xs, x = .ref p ∧ TupX K H1 p xs) ∧ t σ H1 fun vs H2 => r x vs H2 Q
theorem TupX.is {X : Cx} {pins : List (Addr × Obj)} {σ : L2.St} {H : Hp} {s : Shared} {p : Addr} {xs : List V} (I : L2.Inv X pins σ H s) (h : TupX X.K H p xs) : s.TypeIs (.ref p) "tuple" ∧ ∃ ob, s.heap.get? p = some ob ∧ ob.dict = none := by
  obtain ⟨its, _, it, _⟩ := I.tuple h.old
  refine ⟨it.typeIs, ?_⟩
  rcases h with ⟨o, e, d⟩ | ⟨o, its, n, h1, _, d, _⟩
  · exact ⟨o, (I.hok p _ e).1, d⟩
  · exact ⟨o, I.kIn p o h1, d⟩
abbrev D := PyData
def keyOf : Key → D
  | .inl i => .int i
  | .inr x => .str x
/-- a def (or another thing that stands still), named by its address -/
def fnD (a : Addr) : D := .dict [(.none, .int (a : Nat))]
mutual
/-- data; its tuples have no dict of their own -/
inductive Dx (K : PySem.W.Frag) (H : Hp) : V → D → Prop
  | non : Dx K H .non .none
  | bl (b : Bool) : Dx K H (.bl b) (.bool b)
  | int (i : Int) : Dx K H (.int i) (.int i)
  | str (x : Str) : Dx K H (.str x) (.str x)
  | lst {a : Addr} {xs : List V} {ds : List D} : SqL K H a xs → DxAll K H xs ds → Dx K H (.ref a) (.list ds)
  | tup {a : Addr} {xs : List V} {ds : List D} : TupX K H a xs → DxAll K H xs ds → Dx K H (.ref a) (.tuple ds)
  | dct {a : Addr} {xs : List (Key × V)} {ds : List (D × D)} : H a = some (.dK xs) → DxKv K H xs ds → Dx K H (.ref a) (.dict ds)
  | fn (a : Addr) : Dx K H (.ref a) (fnD a)
inductive DxKv (K : PySem.W.Frag) (H : Hp) : List (Key × V) → List (D × D) → Prop
  | nil : DxKv K H [] []
  | cons {k : Key} {v : V} {d : D} {xs : List (Key × V)} {ds : List (D × D)} : Dx K H v d → DxKv K H xs ds → DxKv K H ((k, v) :: xs) ((keyOf k, d) :: ds)
inductive DxAll (K : PySem.W.Frag) (H : Hp) : List V → List D → Prop
  | nil : DxAll K H [] []
  | cons {v : V} {vs : List V} {d : D} {ds : List D} : Dx K H v d → DxAll K H vs ds → DxAll K H (v :: vs) (d :: ds)
end
mutual
theorem Dx.old {K : PySem.W.Frag} {H : Hp} : ∀ {v : V} {d : D}, Dx K H v d → d.hasDict = false → L2.Dp K H v d
  | _, _, .non, _ => .non
  | _, _, .bl b, _ => .bl b
  | _, _, .int i, _ => .int i
  | _, _, .str x, _ => .str x
  | _, .list ds, .lst h a, z => .lst h (a.old (by simpa only [PyData.hasDict] using z))
  | _, .tuple ds, .tup h a, z => .tup h.old (a.old (by simpa only [PyData.hasDict] using z))
  | _, _, .dct _ _, z => absurd z (by simp only [PyData.hasDict]; decide)
  | _, _, .fn a, z => absurd z (by unfold fnD; simp only [PyData.hasDict]; decide)
theorem DxAll.old {K : PySem.W.Frag} {H : Hp} : ∀ {vs : List V} {ds : List D}, DxAll K H vs ds → PyData.hasDictAll ds = false → L2.DpAll K H vs ds
  | _, _, .nil, _ => .nil
  | _, _ :: _, .cons h t, z => by
    simp only [PyData.hasDictAll, Bool.or_eq_false_iff] at z
    exact .cons (h.old z.1) (t.old z.2)
end
theorem noDct {d : D} (h : SeqAt.shaped d = true) : d.hasDict = false := PySem.PyData.hasDict_of_canLay d (SeqAt.canLay_of_shaped h)
def dEnt (w : World) (z : NestedKey × Addr × Value) : DictEntry := ⟨z.1.hash w, .ref z.2.1, z.2.2⟩
def dTok (w : World) (a : Addr) (ks : List (NestedKey × Addr × V)) : Heap → Prop := fun h => (a == sysModules) = false ∧ ks.length ≤ sizeLine ∧ ∃ (zs : List (NestedKey × Addr × Value)) (o : Obj) (es : Array DictEntry) (ep : Nat),
  Paired (fun p z => p.1 = z.1 ∧ p.2.1 = z.2.1 ∧ RelV p.2.2 z.2.2) ks zs ∧ h.get? a = some o ∧ o.ExactDict ∧ o.data = .dict es ep ∧ es.toList = zs.map (dEnt w) ∧ (zs.map (·.1)).Nodup
def dTO (w : World) (a : Addr) (ks : List (NestedKey × Addr × V)) : HO := .ext (dTok w a ks)
end DL
namespace DL
open PySem PySem.Spec PyProof.Rows L2
variable {K : PySem.W.Frag}
theorem rdUp {F F' : Hp} {a : Addr} {u : HO} (e : Same F F') (h : Rd F a u) : Rd F' a u := by
  rcases h with h | ⟨o, h⟩
  · exact .inl (e _ _ h)
  · exact .inr ⟨o, e _ _ h⟩
theorem slUp {F F' : Hp} {a : Addr} {xs : List V} (e : Same F F') (h : SqL K F a xs) : SqL K F' a xs := h.elim (fun h => .inl (rdUp e h)) .inr
theorem stUp {F F' : Hp} {a : Addr} {xs : List V} (e : Same F F') (h : SqT K F a xs) : SqT K F' a xs := h.elim (fun h => .inl (rdUp e h)) .inr
theorem txUp {F F' : Hp} {a : Addr} {xs : List V} (e : Same F F') (h : TupX K F a xs) : TupX K F' a xs := h.elim (fun ⟨o, h, d⟩ => .inl ⟨o, e _ _ h, d⟩) .inr
mutual
theorem dpUp {F F' : Hp} (e : Same F F') : ∀ {v : V} {d : D}, Dx K F v d → Dx K F' v d
  | _, _, .non => .non
  | _, _, .bl b => .bl b
  | _, _, .int i => .int i
  | _, _, .str x => .str x
  | _, _, .lst h a => .lst (slUp e h) (dpAllUp e a)
  | _, _, .tup h a => .tup (txUp e h) (dpAllUp e a)
  | _, _, .dct h a => .dct (e _ _ h) (dpKvUp e a)
  | _, _, .fn a => .fn a
theorem dpKvUp {F F' : Hp} (e : Same F F') : ∀ {vs : List (Key × V)} {ds : List (D × D)}, DxKv K F vs ds → DxKv K F' vs ds
  | _, _, .nil => .nil
  | _, _, .cons h t => .cons (dpUp e h) (dpKvUp e t)
theorem dpAllUp {F F' : Hp} (e : Same F F') : ∀ {vs : List V} {ds : List D}, DxAll K F vs ds → DxAll K F' vs ds
  | _, _, .nil => .nil
  | _, _, .cons h t => .cons (dpUp e h) (dpAllUp e t)
end
theorem dpAllLen {F : Hp} : ∀ {vs : List V} {ds : List D}, DxAll K F vs ds → vs.length = ds.length
  | _, _, .nil => rfl
  | _, _, .cons _ t => by simp [dpAllLen t]
theorem dpAllGet {F : Hp} : ∀ {vs : List V} {ds : List D} {i : Nat} {d : D}, DxAll K F vs ds → ds[i]? = some d → ∃ v, vs[i]? = some v ∧ Dx K F v d
  | _, _, _, _, .nil, e => by simp at e
  | _, _, 0, _, .cons h _, e => by simp at e; subst e; exact ⟨_, rfl, h⟩
  | _, _, i + 1, _, .cons _ t, e => by
    obtain ⟨v, h1, h2⟩ := dpAllGet (i := i) t (by simpa using e)
    exact ⟨v, by simpa using h1, h2⟩
theorem dpAllGetV {F : Hp} : ∀ {vs : List V} {ds : List D} {i : Nat} {v : V}, DxAll K F vs ds → vs[i]? = some v → ∃ d, ds[i]? = some d ∧ Dx K F v d
  | _, _, _, _, .nil, e => by simp at e
  | _, _, 0, _, .cons h _, e => by simp at e; subst e; exact ⟨_, rfl, h⟩
  | _, _, i + 1, _, .cons _ t, e => by
    obtain ⟨v, h1, h2⟩ := dpAllGetV (i := i) t (by simpa using e)
    exact ⟨v, by simpa using h1, h2⟩
theorem dpAllApp {F : Hp} : ∀ {vs ws : List V} {ds es : List D}, DxAll K F vs ds → DxAll K F ws es → DxAll K F (vs ++ ws) (ds ++ es)
  | _, _, _, _, .nil, h => h
  | _, _, _, _, .cons a t, h => .cons a (dpAllApp t h)
theorem dpAllTake {F : Hp} : ∀ {vs : List V} {ds : List D} (n : Nat), DxAll K F vs ds → DxAll K F (vs.take n) (ds.take n)
  | _, _, 0, _ => .nil
  | _, _, _ + 1, .nil => .nil
  | _, _, n + 1, .cons a t => .cons a (dpAllTake n t)
theorem dpAllDrop {F : Hp} : ∀ {vs : List V} {ds : List D} (n : Nat), DxAll K F vs ds → DxAll K F (vs.drop n) (ds.drop n)
  | _, _, 0, h => h
  | _, _, _ + 1, .nil => .nil
  | _, _, n + 1, .cons _ t => dpAllDrop n t
theorem dpAllSet {F : Hp} {v : V} {d : D} (hv : Dx K F v d) : ∀ {vs : List V} {ds : List D} (i : Nat), DxAll K F vs ds → DxAll K F (vs.set i v) (ds.set i d)
  | _, _, _, .nil => .nil
  | _, _, 0, .cons _ t => .cons hv t
  | _, _, i + 1, .cons a t => .cons a (dpAllSet hv i t)
theorem dpAllErase {F : Hp} : ∀ {vs : List V} {ds : List D} (i : Nat), DxAll K F vs ds → DxAll K F (vs.eraseIdx i) (ds.eraseIdx i)
  | _, _, _, .nil => .nil
  | _, _, 0, .cons _ t => t
  | _, _, i + 1, .cons a t => .cons a (dpAllErase i t)
/-- the tables of code objects: what stands there is told by a sentence that stays true while they grow -/
class TabC where
  exts : List (Addr × (Heap → Prop))
  lams : List (Addr × Str)
  wld : World
inductive Ow where
  | lst (ds : List D)
  | lls (dss : List (List D))
  | dK (kvs : List (Key × D))
  /-- a dict that is locked: it is gone through -/
  | dF (kvs : List (Key × D))
  /-- a dict whose keys are tuples -/
  | dT (kvs : List (NestedKey × D))
inductive Ent where
  | no
  | dat (d : D)
  | own (w : Ow)
abbrev Rho := List Ent
def KD (K : PySem.W.Frag) (F : Hp) : List (Key × V) → List (Key × D) → Prop := Paired fun p q => p.1 = q.1 ∧ Dx K F p.2 q.2
def KDT (K : PySem.W.Frag) (F : Hp) : List (NestedKey × Addr × V) → List (NestedKey × D) → Prop := Paired fun p q => p.1 = q.1 ∧ p.1.depth ≤ 8 ∧ Dx K F (.ref p.2.1) p.1.data ∧ Dx K F p.2.2 q.2
def OwRep [TabC] (K : PySem.W.Frag) (F H : Hp) (a : Addr) (fp : List Addr) : Ow → Prop
  | .lst ds => fp = [a] ∧ ∃ vs, H a = some (.lst vs) ∧ DxAll K F vs ds
  | .lls dss => ∃ bs : List Addr, fp = a :: bs ∧ fp.Nodup ∧ H a = some (.lst (bs.map V.ref)) ∧ Paired (fun b ds => ∃ vs, H b = some (.lst vs) ∧ DxAll K F vs ds) bs dss
  | .dK kvs => fp = [a] ∧ ∃ xs, H a = some (.dK xs) ∧ KD K F xs kvs
  | .dF kvs => fp = [] ∧ ∃ od xs, F a = some (.frz od (.dK xs)) ∧ KD K F xs kvs
  | .dT kvs => fp = [a] ∧ ∃ ks, H a = some (dTO TabC.wld a ks) ∧ KDT K F ks kvs
theorem pairedMap {α β : Type} {R S : α → β → Prop} : ∀ {xs : List α} {ys : List β}, Paired R xs ys → (∀ x y, x ∈ xs → R x y → S x y) → Paired S xs ys
  | _, _, .nil, _ => .nil
  | _, _, .cons r t, f => .cons (f _ _ (List.mem_cons_self) r) (pairedMap t fun x y m => f x y (List.mem_cons_of_mem _ m))
theorem OwRep.up [TabC] {F F' H H' : Hp} {a : Addr} {fp : List Addr} {w : Ow} (h : OwRep K F H a fp w) (e : Same F F') (k : ∀ b ∈ fp, H' b = H b) : OwRep K F' H' a fp w := by
  cases w with
  | lst ds =>
    obtain ⟨rfl, vs, h1, h2⟩ := h
    exact ⟨rfl, vs, (k a (by simp)).trans h1, dpAllUp e h2⟩
  | lls dss =>
    obtain ⟨bs, rfl, nd, h1, h2⟩ := h
    refine ⟨bs, rfl, nd, (k a (by simp)).trans h1, pairedMap h2 fun b ds m ⟨vs, q1, q2⟩ => ⟨vs, (k b (by simp [m])).trans q1, dpAllUp e q2⟩⟩
  | dK kvs =>
    obtain ⟨rfl, xs, h1, h2⟩ := h
    exact ⟨rfl, xs, (k a (by simp)).trans h1, pairedMap h2 fun p q _ r => ⟨r.1, dpUp e r.2⟩⟩
  | dF kvs =>
    obtain ⟨rfl, od, xs, h1, h2⟩ := h
    exact ⟨rfl, od, xs, e _ _ h1, pairedMap h2 fun p q _ r => ⟨r.1, dpUp e r.2⟩⟩
  | dT kvs =>
    obtain ⟨rfl, xs, h1, h2⟩ := h
    exact ⟨rfl, xs, (k a (by simp)).trans h1, pairedMap h2 fun p q _ r => ⟨r.1, r.2.1, dpUp e r.2.2.1, dpUp e r.2.2.2⟩⟩
def tabP (P : Addr) : Heap → Prop := fun h => ∃ ps : Array Value, h.get? P = some { cls := .none, data := .fields ps } ∧ TriplesOk ps.toList
variable [TabC]
def TabsE (H : Hp) : Prop := ∀ p ∈ TabC.exts, H p.1 = some (.ext p.2)
/-- the tables that grow while it runs: what they hold stands in the heap's description -/
def TabI (H : Hp) : Prop := LamX.Tabs TabC.lams H
def lamW (a : Addr) : Prop := ∃ p ∈ TabC.lams, p.1 = a
/-- neither a table nor a thing told by a sentence -/
def NotT (o : HO) : Prop := (∀ ps, o ≠ .tbl ps) ∧ ∀ d q, o ≠ LamX.CodeO d q
theorem TabI.ext {H H' : Hp} (t : TabI H) (e : Same H H') : TabI H' := LamX.Tabs.ext t e
theorem TabI.own {H : Hp} {p : Addr} {o : HO} (t : TabI H) (h : ∀ u, H p = some u → NotT u) : TabI (upd H p o) := fun q m => by
  obtain ⟨ps, h1, h2, h3⟩ := t q m
  have n1 : q.1 ≠ p := fun z => by
    rw [z] at h1
    exact (h _ h1).1 ps rfl
  refine ⟨ps, by rw [upd_ne n1]; exact h1, h2, fun pos cv hc => ?_⟩
  obtain ⟨c, e1, e2⟩ := h3 pos cv hc
  refine ⟨c, e1, ?_⟩
  have n2 : c ≠ p := fun z => by
    rw [z] at e2
    exact (h _ e2).2 _ _ rfl
  rw [upd_ne n2]
  exact e2
theorem TabI.but {H H' : Hp} {p : Addr} (t : TabI H) (h : ∀ u, H p = some u → NotT u) (k : ∀ a, a ≠ p → H' a = H a) : TabI H' := fun q m => by
  obtain ⟨ps, h1, h2, h3⟩ := t q m
  have n1 : q.1 ≠ p := fun z => by
    rw [z] at h1
    exact (h _ h1).1 ps rfl
  refine ⟨ps, by rw [k _ n1]; exact h1, h2, fun pos cv hc => ?_⟩
  obtain ⟨c, e1, e2⟩ := h3 pos cv hc
  have n2 : c ≠ p := fun z => by
    rw [z] at e2
    exact (h _ e2).2 _ _ rfl
  exact ⟨c, e1, by rw [k _ n2]; exact e2⟩
theorem TabI.out {H H' : Hp} (t : TabI H) (D : Addr → Prop) (h : ∀ p, D p → ∀ u, H p = some u → NotT u) (k : ∀ a, ¬ D a → H' a = H a) : TabI H' := fun q m => by
  obtain ⟨ps, h1, h2, h3⟩ := t q m
  refine ⟨ps, by rw [k _ fun z => (h _ z _ h1).1 ps rfl]; exact h1, h2, fun pos cv hc => ?_⟩
  obtain ⟨c, e1, e2⟩ := h3 pos cv hc
  exact ⟨c, e1, by rw [k _ fun z => (h _ z _ e2).2 _ _ rfl]; exact e2⟩
theorem TabI.noLam {H : Hp} {p : Addr} (t : TabI H) (h : ∀ u, H p = some u → NotT u) : ¬ lamW p := fun ⟨q, m, e⟩ => by
  obtain ⟨ps, h1, _⟩ := t q m
  rw [e] at h1
  exact (h _ h1).1 ps rfl
theorem TabI.noTabX {H : Hp} {p : Addr} {φ : Heap → Prop} (t : TabI H) (h : H p = some (.ext φ)) : ¬ lamW p := fun ⟨q, m, e⟩ => by
  obtain ⟨ps, h1, _⟩ := t q m
  rw [e, h] at h1
  cases h1
theorem notLst {xs : List V} : NotT (.lst xs) := ⟨fun _ => nofun, fun _ _ h => HO.noConfusion h⟩
theorem notDK {xs : List (Key × V)} : NotT (.dK xs) := ⟨fun _ => nofun, fun _ _ h => HO.noConfusion h⟩
theorem notFrz {ob : Obj} {o : HO} : NotT (.frz ob o) := ⟨fun _ => nofun, fun _ _ h => HO.noConfusion h⟩
theorem notDT {w : World} {a : Addr} {ks : List (NestedKey × Addr × V)} : NotT (dTO w a ks) := ⟨fun _ h => HO.noConfusion h, fun d q h => by
  have e : dTok w a ks = fun hp => ∃ (oc : Obj) (vs : Array Value) (t : Tok), hp.get? d = some oc ∧ oc.data = .fields vs ∧ vs[1]? = some (.str q t) := HO.ext.inj h
  let h0 : Heap := { objs := (Array.replicate d ({ cls := .none } : Obj)) }
  have sz : h0.objs.size = d := by simp [h0]
  let oc : Obj := { cls := .none, data := .fields #[.none, .str q 0] }
  have e1 : (h0.push oc).get? d = some oc := by
    have := Heap.get?_push_size h0 (o := oc) rfl
    rw [sz] at this
    exact this
  have e2 : dTok w a ks (h0.push oc) := by
    rw [e]
    exact ⟨oc, _, 0, e1, rfl, rfl⟩
  obtain ⟨_, _, zs, o, es, ep, _, g, _, dt, _⟩ := e2
  by_cases z : a = d
  · rw [z, e1] at g
    cases g
    cases dt
  · have lt := Heap.lt_size g
    rw [Heap.size_push, sz] at lt
    have lt2 : a < d := Nat.lt_of_le_of_ne (Nat.le_of_lt_succ lt) z
    have g0 : h0.get? a = some ({ cls := .none } : Obj) := by
      unfold Heap.get?
      simp [h0, lt2]
    have := Heap.get?_push_of_some oc g0
    rw [this] at g
    cases g
    cases dt⟩
structure Cc where
  K : PySem.W.Frag
  P : List (Nat × Addr)
  W : Addr → Prop
  F0 : Hp
  B : Hp
structure SimF (c : Cc) (F H : Hp) (σ : L2.St) (ρ : Rho) (fp : Nat → List Addr) : Prop where
  f0 : Same c.F0 F
  fh : Same F H
  keep : ∀ a o, c.B a = some o → ¬ c.W a → ¬ lamW a → H a = some o
  dom : ∀ a, c.B a ≠ none → H a ≠ none
  av : ∀ a, c.B a ≠ none → c.F0 a = none → F a = none
  par : ∀ (i : Nat) (a : Addr), (i, a) ∈ c.P → σ[i]? = some (some (.ref a))
  dat : ∀ (i : Nat) (d : D), ρ[i]? = some (.dat d) → ∃ v, σ[i]? = some (some v) ∧ Dx c.K F v d
  own : ∀ (i : Nat) (w : Ow), ρ[i]? = some (.own w) → ∃ a, σ[i]? = some (some (.ref a)) ∧ OwRep c.K F H a (fp i) w
  ownF : ∀ (i : Nat) (w : Ow) (b : Addr), ρ[i]? = some (.own w) → b ∈ fp i → F b = none ∧ H b ≠ none ∧ (c.B b = none ∨ c.W b)
  sep : ∀ (i j : Nat) (w w' : Ow) (b : Addr), ρ[i]? = some (.own w) → ρ[j]? = some (.own w') → b ∈ fp i → b ∈ fp j → i = j
  len : σ.length = ρ.length
  wp : ∀ (i : Nat) (w : Ow) (b : Addr), ρ[i]? = some (.own w) → b ∈ fp i → ∀ j, (j, b) ∈ c.P → j = i
  pb : ∀ j b, (j, b) ∈ c.P → c.B b ≠ none
  tb : TabsE c.B
  tw : ∀ p ∈ TabC.exts, ¬ c.W p.1
  tl : ∀ p ∈ TabC.exts, ¬ lamW p.1
  ti : TabI H
  fl : ∀ a, lamW a → F a = none
def Sim (c : Cc) (F H : Hp) (σ : L2.St) (ρ : Rho) : Prop := ∃ fp, SimF c F H σ ρ fp
theorem pairedHas {α β : Type} {R : α → β → Prop} : ∀ {xs : List α} {ys : List β} {x : α}, Paired R xs ys → x ∈ xs → ∃ y, R x y
  | _, _, _, .nil, m => nomatch m
  | _, _, _, .cons r t, m => by
    rcases List.mem_cons.mp m with z | z
    · exact ⟨_, z ▸ r⟩
    · exact pairedHas t z
theorem OwRep.kind {K : PySem.W.Frag} {F H : Hp} {a : Addr} {fp : List Addr} {w : Ow} (h : OwRep K F H a fp w) : ∀ b ∈ fp, ∀ u, H b = some u → NotT u := fun b m u e => by
  cases w with
  | lst ds =>
    obtain ⟨rfl, vs, h1, h2⟩ := h
    rw [List.mem_singleton.mp m, h1] at e
    cases e; exact notLst
  | lls dss =>
    obtain ⟨bs, rfl, nd, h1, h2⟩ := h
    rcases List.mem_cons.mp m with z | z
    · rw [z, h1] at e
      cases e; exact notLst
    · obtain ⟨ds, vs, q1, _⟩ := pairedHas h2 z
      rw [q1] at e
      cases e; exact notLst
  | dK kvs =>
    obtain ⟨rfl, xs, h1, h2⟩ := h
    rw [List.mem_singleton.mp m, h1] at e
    cases e; exact notDK
  | dF kvs =>
    obtain ⟨rfl, _⟩ := h
    cases m
  | dT kvs =>
    obtain ⟨rfl, xs, h1, h2⟩ := h
    rw [List.mem_singleton.mp m, h1] at e
    cases e; exact notDT
theorem SimF.kind {c : Cc} {F H : Hp} {σ : L2.St} {ρ : Rho} {fp : Nat → List Addr} (s : SimF c F H σ ρ fp) {i : Nat} {w : Ow} {b : Addr} (q : ρ[i]? = some (.own w)) (m : b ∈ fp i) : ∀ u, H b = some u → NotT u := let ⟨_, _, r⟩ := s.own i w q; r.kind b m
theorem SimF.noLam {c : Cc} {F H : Hp} {σ : L2.St} {ρ : Rho} {fp : Nat → List Addr} (s : SimF c F H σ ρ fp) {i : Nat} {w : Ow} {b : Addr} (q : ρ[i]? = some (.own w)) (m : b ∈ fp i) : ¬ lamW b := s.ti.noLam (s.kind q m)
section
variable {c : Cc} {F F' H H' : Hp} {σ σ' : L2.St} {ρ ρ' : Rho} {fp : Nat → List Addr} {p : Addr} {o : HO}
theorem Sim.fh (h : Sim c F H σ ρ) : Same F H := let ⟨_, s⟩ := h; s.fh
theorem Sim.f0 (h : Sim c F H σ ρ) : Same c.F0 F := let ⟨_, s⟩ := h; s.f0
theorem Sim.len (h : Sim c F H σ ρ) : σ.length = ρ.length := let ⟨_, s⟩ := h; s.len
theorem Sim.dat (h : Sim c F H σ ρ) {i : Nat} {d : D} (e : ρ[i]? = some (.dat d)) : ∃ v, σ[i]? = some (some v) ∧ Dx c.K F v d := let ⟨_, s⟩ := h; s.dat i d e
theorem sameNew (h : H p = none) : Same H (upd H p o) := fun a u e => by
  rw [upd_ne (ne_of_none e h)]
  exact e
theorem sameUpd (e : Same F H) (h : F p = none) : Same F (upd H p o) := fun a u q => by
  rw [upd_ne (ne_of_none q h)]
  exact e a u q
theorem sameUpd2 (e : Same F H) (h : H p = some o) : Same (upd F p o) H := fun a u q => by
  by_cases z : a = p
  · subst z
    rw [upd_same] at q
    rw [h]
    exact q
  · rw [upd_ne z] at q
    exact e a u q
theorem freeF (e : Same F H) (h : H p = none) : F p = none := Same.free e h
/-- a new object that nobody knows -/
theorem Sim.heap (h : Sim c F H σ ρ) (hp : H p = none) : Sim c F (upd H p o) σ ρ := by
  obtain ⟨fp, s⟩ := h
  have np : ∀ a, H a ≠ none → a ≠ p := fun a ha z => ha (z ▸ hp)
  refine ⟨fp, s.f0, s.fh.trans (sameNew hp), fun a u q w l => ?_, fun a q => ?_, s.av, s.par, s.dat, fun i w q => ?_, fun i w b q m => ?_, s.sep, s.len, s.wp, s.pb, s.tb, s.tw, s.tl, s.ti.ext (sameNew hp), s.fl⟩
  · have := s.keep a u q w l
    rw [upd_ne (np a (by simp [this]))]
    exact this
  · rw [upd_ne (np a (s.dom a q))]
    exact s.dom a q
  · obtain ⟨a, e1, e2⟩ := s.own i w q
    exact ⟨a, e1, e2.up (Same.refl _) fun b m => upd_ne (np b (s.ownF i w b q m).2.1)⟩
  · obtain ⟨e1, e2, e3⟩ := s.ownF i w b q m
    exact ⟨e1, by rw [upd_ne (np b e2)]; exact e2, e3⟩
theorem SimF.tabs (s : SimF c F H σ ρ fp) : TabsE H := fun p m => s.keep p.1 _ (s.tb p m) (s.tw p m) (s.tl p m)
theorem SimF.noTab (s : SimF c F H σ ρ fp) {P : Addr × (Heap → Prop)} (hm : P ∈ TabC.exts) {i : Nat} {w : Ow} (q : ρ[i]? = some (.own w)) : P.1 ∉ fp i := fun m => by
  rcases (s.ownF i w P.1 q m).2.2 with z | z
  · rw [s.tb P hm] at z; cases z
  · exact s.tw P hm z
theorem Sim.tabs (h : Sim c F H σ ρ) : TabsE H := let ⟨_, s⟩ := h; s.tabs
/-- an object that is nobody's own becomes frozen -/
theorem SimF.freeze (s : SimF c F H σ ρ fp) (hp : H p = some o) (hB : c.B p = none) (no : ∀ (i : Nat) (w : Ow), ρ[i]? = some (.own w) → p ∉ fp i) (hf : F p = none) (nl : ¬ lamW p) : SimF c (upd F p o) H σ ρ fp := by
  have e1 : Same F (upd F p o) := sameNew hf
  refine ⟨s.f0.trans e1, sameUpd2 s.fh hp, s.keep, s.dom, fun a q q2 => ?_, s.par, fun i d q => ?_, fun i w q => ?_, fun i w b q m => ?_, s.sep, s.len, s.wp, s.pb, s.tb, s.tw, s.tl, s.ti, fun a l => (upd_ne fun z => nl (by rw [← z]; exact l)).trans (s.fl a l)⟩
  · have : a ≠ p := fun z => by rw [z] at q; exact q hB
    rw [upd_ne this]
    exact s.av a q q2
  · obtain ⟨v, h1, h2⟩ := s.dat i d q
    exact ⟨v, h1, dpUp e1 h2⟩
  · obtain ⟨a, h1, h2⟩ := s.own i w q
    exact ⟨a, h1, h2.up e1 fun _ _ => rfl⟩
  · obtain ⟨h1, h2, h3⟩ := s.ownF i w b q m
    have : b ≠ p := fun z => no i w q (z ▸ m)
    exact ⟨by rw [upd_ne this]; exact h1, h2, h3⟩
/-- a new frozen object -/
theorem Sim.grow (h : Sim c F H σ ρ) (hp : H p = none) : Sim c (upd F p o) (upd H p o) σ ρ := by
  obtain ⟨fp, s⟩ := h
  obtain ⟨fp', s'⟩ := Sim.heap (o := o) ⟨fp, s⟩ hp
  -- the footprints are the old ones
  have np : ∀ a, H a ≠ none → a ≠ p := fun a ha z => ha (z ▸ hp)
  have s2 : SimF c F (upd H p o) σ ρ fp := by
    refine ⟨s.f0, s.fh.trans (sameNew hp), s'.keep, s'.dom, s.av, s.par, s.dat, fun i w q => ?_, fun i w b q m => ?_, s.sep, s.len, s.wp, s.pb, s.tb, s.tw, s.tl, s.ti.ext (sameNew hp), s.fl⟩
    · obtain ⟨a, e1, e2⟩ := s.own i w q
      exact ⟨a, e1, e2.up (Same.refl _) fun b m => upd_ne (np b (s.ownF i w b q m).2.1)⟩
    · obtain ⟨e1, e2, e3⟩ := s.ownF i w b q m
      exact ⟨e1, by rw [upd_ne (np b e2)]; exact e2, e3⟩
  refine ⟨fp, s2.freeze upd_same ?_ (fun i w q m => (s.ownF i w p q m).2.1 hp) (freeF s.fh hp) (s.ti.noLam fun u e => by rw [hp] at e; cases e)⟩
  cases q : c.B p with
  | none => rfl
  | some u => exact absurd hp (s.dom p (by simp [q]))
/-- a slot gets data -/
theorem Sim.setDat (h : Sim c F H σ ρ) {i : Nat} {v : V} {d : D} (hv : Dx c.K F v d) (hi : i < ρ.length) (hP : ∀ a, (i, a) ∉ c.P) : Sim c F H (σ.set i (some v)) (ρ.set i (.dat d)) := by
  obtain ⟨fp, s⟩ := h
  have hi' : i < σ.length := by rw [s.len]; exact hi
  have own' : ∀ (j : Nat) (w : Ow), (ρ.set i (.dat d))[j]? = some (.own w) → j ≠ i ∧ ρ[j]? = some (.own w) := fun j w q => by
    by_cases z : j = i
    · subst z
      rw [List.getElem?_set_self hi] at q
      cases q
    · rw [List.getElem?_set_ne (Ne.symm z)] at q
      exact ⟨z, q⟩
  refine ⟨fp, s.f0, s.fh, s.keep, s.dom, s.av, fun j a m => ?_, fun j e q => ?_, fun j w q => ?_, fun j w b q m => s.ownF j w b (own' j w q).2 m, fun j k w w' b q q' => s.sep j k w w' b (own' j w q).2 (own' k w' q').2, by simpa using s.len, fun j w b q m => s.wp j w b (own' j w q).2 m, s.pb, s.tb, s.tw, s.tl, s.ti, s.fl⟩
  · have z : j ≠ i := fun z => hP a (z ▸ m)
    rw [List.getElem?_set_ne (Ne.symm z)]
    exact s.par j a m
  · by_cases z : j = i
    · subst z
      rw [List.getElem?_set_self hi] at q
      cases q
      exact ⟨v, List.getElem?_set_self hi', hv⟩
    · rw [List.getElem?_set_ne (Ne.symm z)] at q ⊢
      exact s.dat j e q
  · obtain ⟨z, q'⟩ := own' j w q
    rw [List.getElem?_set_ne (Ne.symm z)]
    exact s.own j w q'
/-- forget entries -/
theorem Sim.weak (h : Sim c F H σ ρ) (hl : ρ'.length = ρ.length) (hw : ∀ i : Nat, ρ'[i]? = ρ[i]? ∨ ∀ e : Ent, ρ'[i]? = some e → e = .no) : Sim c F H σ ρ' := by
  obtain ⟨fp, s⟩ := h
  have o' : ∀ (j : Nat) (w : Ow), ρ'[j]? = some (.own w) → ρ[j]? = some (.own w) := fun j w q => (hw j).elim (fun z => z ▸ q) fun z => by cases z _ q
  have d' : ∀ (j : Nat) (d : D), ρ'[j]? = some (.dat d) → ρ[j]? = some (.dat d) := fun j d q => (hw j).elim (fun z => z ▸ q) fun z => by cases z _ q
  exact ⟨fp, s.f0, s.fh, s.keep, s.dom, s.av, s.par, fun i d q => s.dat i d (d' i d q), fun i w q => s.own i w (o' i w q), fun i w b q => s.ownF i w b (o' i w q), fun i j w w' b q q' => s.sep i j w w' b (o' i w q) (o' j w' q'), by rw [hl]; exact s.len, fun i w b q => s.wp i w b (o' i w q), s.pb, s.tb, s.tw, s.tl, s.ti, s.fl⟩
end
structure Gm where
  K : PySem.W.Frag
  ps : List Nat
  xe : XK
/-- no exception leaves -/
abbrev gm (K : PySem.W.Frag) (ps : List Nat) : Gm := ⟨K, ps, E0⟩
def Cc.ok (c : Cc) (g : Gm) : Prop := c.K = g.K ∧ c.P.map (·.1) = g.ps
variable {g : Gm}
/-- an operand: frozen data, or a list of one's own -/
inductive Arg where
  | d (x : D)
  | o (i : Nat)
def Arg.den (ρ : Rho) : Arg → Option D
  | .d x => some x
  | .o i => match ρ[i]? with
    | some (.own (.lst ds)) => some (.list ds)
    | _ => none
inductive ArgAt (K : PySem.W.Frag) (F : Hp) (σ : L2.St) (v : V) : Arg → Prop
  | d {x : D} : Dx K F v x → ArgAt K F σ v (.d x)
  | o {i : Nat} : σ[i]? = some (some v) → ArgAt K F σ v (.o i)
/-- an operand as the operations see it -/
def Opd (K : PySem.W.Frag) (F H : Hp) (v : V) (d : D) : Prop := Dx K F v d ∨ ∃ a vs ds, v = .ref a ∧ d = .list ds ∧ SqL K H a vs ∧ DxAll K F vs ds
inductive OpdAll (K : PySem.W.Frag) (F H : Hp) : List V → List D → Prop
  | nil : OpdAll K F H [] []
  | cons {v : V} {vs : List V} {d : D} {ds : List D} : Opd K F H v d → OpdAll K F H vs ds → OpdAll K F H (v :: vs) (d :: ds)
theorem Opd.dp {F H : Hp} {v : V} {d : D} (e : Same F H) (h : Opd K F H v d) : Dx K H v d := by
  rcases h with h | ⟨a, vs, ds, rfl, rfl, h1, h2⟩
  · exact dpUp e h
  · exact .lst h1 (dpAllUp e h2)
theorem Opd.list {F H : Hp} {v : V} {ds : List D} (e : Same F H) (h : Opd K F H v (.list ds)) : ∃ a vs, v = .ref a ∧ SqL K H a vs ∧ DxAll K F vs ds := by
  rcases h with h | ⟨a, vs, ds', rfl, q, h1, h2⟩
  · cases h with
    | lst h1 h2 => exact ⟨_, _, rfl, slUp e h1, h2⟩
  · cases q
    exact ⟨a, vs, rfl, h1, h2⟩
theorem Opd.tupX {F H : Hp} {v : V} {ds : List D} (e : Same F H) (h : Opd K F H v (.tuple ds)) : ∃ a vs, v = .ref a ∧ TupX K H a vs ∧ DxAll K F vs ds := by
  rcases h with h | ⟨a, vs, ds', rfl, q, h1, h2⟩
  · cases h with
    | tup h1 h2 => exact ⟨_, _, rfl, txUp e h1, h2⟩
  · cases q
theorem Opd.tup {F H : Hp} {v : V} {ds : List D} (e : Same F H) (h : Opd K F H v (.tuple ds)) : ∃ a vs, v = .ref a ∧ SqT K H a vs ∧ DxAll K F vs ds := by
  obtain ⟨a, vs, h1, h2, h3⟩ := Opd.tupX e h
  exact ⟨a, vs, h1, h2.old, h3⟩
theorem Opd.int {F H : Hp} {v : V} {i : Int} (h : Opd K F H v (.int i)) : v = .int i := by
  rcases h with h | ⟨a, vs, ds', rfl, q, h1, h2⟩
  · cases h; rfl
  · cases q
theorem Opd.bl {F H : Hp} {v : V} {i : Bool} (h : Opd K F H v (.bool i)) : v = .bl i := by
  rcases h with h | ⟨a, vs, ds', rfl, q, h1, h2⟩
  · cases h; rfl
  · cases q
theorem Opd.str {F H : Hp} {v : V} {i : Str} (h : Opd K F H v (.str i)) : v = .str i := by
  rcases h with h | ⟨a, vs, ds', rfl, q, h1, h2⟩
  · cases h; rfl
  · cases q
theorem Opd.non {F H : Hp} {v : V} (h : Opd K F H v .none) : v = .non := by
  rcases h with h | ⟨a, vs, ds', rfl, q, h1, h2⟩
  · cases h; rfl
  · cases q
theorem Arg.opd {c : Cc} {F H : Hp} {σ : L2.St} {ρ : Rho} {v : V} {d : D} {A : Arg} (h : Sim c F H σ ρ) (ha : ArgAt c.K F σ v A) (hd : A.den ρ = some d) : Opd c.K F H v d := by
  cases A with
  | d x =>
    have e : x = d := Option.some.inj hd
    subst e
    cases ha with
    | d ha => exact .inl ha
  | o i =>
    replace ha : σ[i]? = some (some v) := by
      cases ha with
      | o ha => exact ha
    obtain ⟨fp, s⟩ := h
    simp only [Arg.den] at hd
    split at hd
    · rename_i ds q
      cases hd
      obtain ⟨a, e1, _, vs, e2, e3⟩ := s.own i _ q
      have e : v = .ref a := by
        have : some (some v) = some (some (V.ref a)) := ha.symm.trans e1
        simpa using this
      exact .inr ⟨a, vs, ds, e, rfl, .inl (.inl e2), e3⟩
    · cases hd
theorem ArgAt.up {K : PySem.W.Frag} {F F' : Hp} {σ : L2.St} {v : V} {A : Arg} (ha : ArgAt K F σ v A) (e : Same F F') : ArgAt K F' σ v A := by
  cases ha with
  | d h => exact .d (dpUp e h)
  | o h => exact .o h
def EvD (g : Gm) (te : TE) (ρ : Rho) (d : D) (ρ' : Rho) : Prop := ∀ (c : Cc) (F H : Hp) (σ : L2.St), c.ok g → Sim c F H σ ρ → ∀ Q : VK, (∀ v F' H', Sim c F' H' σ ρ' → Same F F' → Dx c.K F' v d → Q v H') → te σ H Q
def EvO (g : Gm) (te : TE) (ρ : Rho) (A : Arg) (ρ' : Rho) : Prop := ∀ (c : Cc) (F H : Hp) (σ : L2.St), c.ok g → Sim c F H σ ρ → ∀ Q : VK, (∀ v F' H', Sim c F' H' σ ρ' → Same F F' → ArgAt c.K F' σ v A → Q v H') → te σ H Q
/-- a new list -/
def EvN (g : Gm) (te : TE) (ρ : Rho) (ds : List D) (ρ' : Rho) : Prop := ∀ (c : Cc) (F H : Hp) (σ : L2.St), c.ok g → Sim c F H σ ρ → ∀ Q : VK,
  (∀ p vs F' H', Sim c F' H' σ ρ' → Same F F' → H' p = none → DxAll c.K F' vs ds → Q (.ref p) (upd H' p (.lst vs))) → te σ H Q
def EvT (g : Gm) (tt : TT) (ρ : Rho) (b : Bool) (ρ' : Rho) : Prop := ∀ (c : Cc) (F H : Hp) (σ : L2.St), c.ok g → Sim c F H σ ρ → ∀ Q : Bool → Hp → Prop, (∀ F' H', Sim c F' H' σ ρ' → Same F F' → Q b H') → tt σ H Q
inductive ArgsAt (K : PySem.W.Frag) (F : Hp) (σ : L2.St) : List V → List Arg → Prop
  | nil : ArgsAt K F σ [] []
  | cons {v : V} {vs : List V} {A : Arg} {As : List Arg} : ArgAt K F σ v A → ArgsAt K F σ vs As → ArgsAt K F σ (v :: vs) (A :: As)
def EvA (g : Gm) (ta : TA) (ρ : Rho) (As : List Arg) (ρ' : Rho) : Prop := ∀ (c : Cc) (F H : Hp) (σ : L2.St), c.ok g → Sim c F H σ ρ → ∀ Q : List V → Hp → Prop, (∀ vs F' H', Sim c F' H' σ ρ' → Same F F' → ArgsAt c.K F' σ vs As → Q vs H') → ta σ H Q
def dens (ρ : Rho) : List Arg → Option (List D)
  | [] => some []
  | A :: As => match A.den ρ, dens ρ As with
    | some d, some ds => some (d :: ds)
    | _, _ => none
theorem ArgsAt.opds {c : Cc} {F H : Hp} {σ : L2.St} {ρ : Rho} (h : Sim c F H σ ρ) : ∀ {vs : List V} {As : List Arg} {ds : List D}, ArgsAt c.K F σ vs As → dens ρ As = some ds → OpdAll c.K F H vs ds
  | _, _, _, .nil, e => by cases e; exact .nil
  | _, _, _, .cons a t, e => by
    unfold dens at e
    split at e
    · rename_i d ds e1 e2
      cases e
      exact .cons (Arg.opd h a e1) (ArgsAt.opds h t e2)
    · cases e
theorem ArgsAt.up {c : Cc} {F F' : Hp} {σ : L2.St} (e : Same F F') : ∀ {vs : List V} {As : List Arg}, ArgsAt c.K F σ vs As → ArgsAt c.K F' σ vs As
  | _, _, .nil => .nil
  | _, _, .cons a t => .cons (a.up e) (ArgsAt.up e t)
/-- what an operation's value may be: it stood already, or a new tuple -/
inductive Res (K : PySem.W.Frag) (F H : Hp) : V → D → Hp → Hp → Prop
  | at {v : V} {d : D} : Dx K F v d → Res K F H v d F H
  | new {p : Addr} {o : Obj} {vs : List V} {ds : List D} : H p = none → o.dict = none → DxAll K F vs ds → Res K F H (.ref p) (.tuple ds) (upd F p (.frz o (.tup vs))) (upd H p (.frz o (.tup vs)))
theorem Res.sim {c : Cc} {F H F' H' : Hp} {σ : L2.St} {ρ : Rho} {v : V} {d : D} (h : Sim c F H σ ρ) (r : Res c.K F H v d F' H') : Sim c F' H' σ ρ ∧ Same F F' ∧ Dx c.K F' v d := by
  cases r with
  | «at» q => exact ⟨h, Same.refl _, q⟩
  | new hp ho ha =>
    rename_i p o vs ds
    have e : Same F (upd F p (.frz o (.tup vs))) := sameNew (freeF h.fh hp)
    exact ⟨h.grow hp, e, .tup (.inl ⟨o, upd_same, ho⟩) (dpAllUp e ha)⟩
def R2D (K : PySem.W.Frag) (r : R2) (d e z : D) : Prop := ∀ F H x y (Q : VK), Same F H → Opd K F H x d → Opd K F H y e → (∀ v F' H', Res K F H v z F' H' → Q v H') → r x y H Q
def R1D (K : PySem.W.Frag) (r : V → Hp → VK → Prop) (d z : D) : Prop := ∀ F H x (Q : VK), Same F H → Opd K F H x d → (∀ v F' H', Res K F H v z F' H' → Q v H') → r x H Q
def RCD (K : PySem.W.Frag) (r : List V → Hp → VK → Prop) (ds : List D) (z : D) : Prop := ∀ F H xs (Q : VK), Same F H → OpdAll K F H xs ds → (∀ v F' H', Res K F H v z F' H' → Q v H') → r xs H Q
def RMD (K : PySem.W.Frag) (r : V → List V → Hp → VK → Prop) (d : D) (ds : List D) (z : D) : Prop := ∀ F H x xs (Q : VK), Same F H → Opd K F H x d → OpdAll K F H xs ds → (∀ v F' H', Res K F H v z F' H' → Q v H') → r x xs H Q
/-- .. a new list -/
def R2N (K : PySem.W.Frag) (r : R2) (d e : D) (zs : List D) : Prop := ∀ F H x y (Q : VK), Same F H → Opd K F H x d → Opd K F H y e → (∀ p vs, H p = none → DxAll K F vs zs → Q (.ref p) (upd H p (.lst vs))) → r x y H Q
def RCN (K : PySem.W.Frag) (r : List V → Hp → VK → Prop) (ds : List D) (zs : List D) : Prop := ∀ F H xs (Q : VK), Same F H → OpdAll K F H xs ds → (∀ p vs, H p = none → DxAll K F vs zs → Q (.ref p) (upd H p (.lst vs))) → r xs H Q
section
variable {ta tb tc te : TE} {ρ ρ1 ρ2 ρ3 : Rho} {A B : Arg} {d e z : D} {r : R2} {t u : TT} {i : Nat}
theorem eo_of (h : EvD g te ρ d ρ1) : EvO g te ρ (.d d) ρ1 := fun c F H σ k s Q q => h c F H σ k s Q fun v F' H' s' e x => q v F' H' s' e (.d x)
theorem eo_own {ds : List D} (h : ρ[i]? = some (.own (.lst ds))) : EvO g (tVar i) ρ (.o i) ρ := fun c F H σ k s Q q => by
  obtain ⟨fp, sf⟩ := id s
  obtain ⟨a, e1, _⟩ := sf.own i _ h
  exact ⟨_, e1, q _ F H s (Same.refl _) (.o e1)⟩
theorem ed_var (h : ρ[i]? = some (.dat d)) : EvD g (tVar i) ρ d ρ := fun c F H σ k s Q q => by
  obtain ⟨v, e1, e2⟩ := s.dat h
  exact ⟨v, e1, q v F H s (Same.refl _) e2⟩
theorem ed_int {i : Int} : EvD g (tC (.int i)) ρ (.int i) ρ := fun c F H σ k s Q q => q _ F H s (Same.refl _) (.int i)
theorem ed_bl {i : Bool} : EvD g (tC (.bl i)) ρ (.bool i) ρ := fun c F H σ k s Q q => q _ F H s (Same.refl _) (.bl i)
theorem ed_str {i : Str} : EvD g (tC (.str i)) ρ (.str i) ρ := fun c F H σ k s Q q => q _ F H s (Same.refl _) (.str i)
theorem ed_non : EvD g (tC .non) ρ .none ρ := fun c F H σ k s Q q => q _ F H s (Same.refl _) .non
/-- a new list becomes data -/
theorem ed_ofN {ds : List D} (h : EvN g te ρ ds ρ1) : EvD g te ρ (.list ds) ρ1 := fun c F H σ k s Q q => h c F H σ k s Q fun p vs F' H' s' e hp ha => by
  have e2 := sameNew (o := .lst vs) (freeF s'.fh hp)
  exact q _ _ _ (s'.grow hp) (e.trans e2) (.lst (.inl (.inl upd_same)) (dpAllUp e2 ha))
theorem ed_op (ha : EvO g ta ρ A ρ1) (hb : EvO g tb ρ1 B ρ2) (hr : R2D g.K r d e z) (dA : A.den ρ2 = some d := by rfl) (dB : B.den ρ2 = some e := by rfl) : EvD g (tOp r ta tb) ρ z ρ2 := fun c F H σ k s Q q => by
  refine ha c F H σ k s _ fun x F1 H1 s1 e1 h1 => hb c F1 H1 σ k s1 _ fun y F2 H2 s2 e2 h2 => ?_
  have kk : c.K = g.K := k.1
  have o1 := Arg.opd s2 (h1.up e2) dA
  have o2 := Arg.opd s2 h2 dB
  rw [kk] at o1 o2
  refine hr F2 H2 x y Q s2.fh o1 o2 fun v F3 H3 rs => ?_
  rw [← kk] at rs
  obtain ⟨s3, e3, q3⟩ := rs.sim s2
  exact q v F3 H3 s3 ((e1.trans e2).trans e3) q3
theorem en_op {zs : List D} (ha : EvO g ta ρ A ρ1) (hb : EvO g tb ρ1 B ρ2) (hr : R2N g.K r d e zs) (dA : A.den ρ2 = some d := by rfl) (dB : B.den ρ2 = some e := by rfl) : EvN g (tOp r ta tb) ρ zs ρ2 := fun c F H σ k s Q q => by
  refine ha c F H σ k s _ fun x F1 H1 s1 e1 h1 => hb c F1 H1 σ k s1 _ fun y F2 H2 s2 e2 h2 => ?_
  have kk : c.K = g.K := k.1
  have o1 := Arg.opd s2 (h1.up e2) dA
  have o2 := Arg.opd s2 h2 dB
  rw [kk] at o1 o2
  refine hr F2 H2 x y Q s2.fh o1 o2 fun p vs hp ha => ?_
  exact q p vs F2 H2 s2 (e1.trans e2) hp (by rw [kk]; exact ha)
theorem ed_un {r : V → Hp → VK → Prop} (ha : EvO g ta ρ A ρ1) (hr : R1D g.K r d z) (dA : A.den ρ1 = some d := by rfl) : EvD g (tUn r ta) ρ z ρ1 := fun c F H σ k s Q q => by
  refine ha c F H σ k s _ fun x F1 H1 s1 e1 h1 => ?_
  have kk : c.K = g.K := k.1
  have o1 := Arg.opd s1 h1 dA
  rw [kk] at o1
  refine hr F1 H1 x Q s1.fh o1 fun v F3 H3 rs => ?_
  rw [← kk] at rs
  obtain ⟨s3, e3, q3⟩ := rs.sim s1
  exact q v F3 H3 s3 (e1.trans e3) q3
theorem ea_nil : EvA g tNil ρ [] ρ := fun c F H σ k s Q q => q [] F H s (Same.refl _) .nil
theorem ea_cons {tr : TA} {As : List Arg} (h : EvO g te ρ A ρ1) (hr : EvA g tr ρ1 As ρ2) : EvA g (tCons te tr) ρ (A :: As) ρ2 := fun c F H σ k s Q q =>
  h c F H σ k s _ fun v F1 H1 s1 e1 h1 => hr c F1 H1 σ k s1 _ fun vs F2 H2 s2 e2 h2 => q _ F2 H2 s2 (e1.trans e2) (.cons (h1.up e2) h2)
theorem ed_cb {r : List V → Hp → VK → Prop} {tr : TA} {As : List Arg} {ds : List D} (ha : EvA g tr ρ As ρ1) (hr : RCD g.K r ds z) (dA : dens ρ1 As = some ds := by rfl) : EvD g (tCB r tr) ρ z ρ1 := fun c F H σ k s Q q => by
  refine ha c F H σ k s _ fun xs F1 H1 s1 e1 h1 => ?_
  have kk : c.K = g.K := k.1
  have o1 := ArgsAt.opds s1 h1 dA
  rw [kk] at o1
  refine hr F1 H1 xs Q s1.fh o1 fun v F3 H3 rs => ?_
  rw [← kk] at rs
  obtain ⟨s3, e3, q3⟩ := rs.sim s1
  exact q v F3 H3 s3 (e1.trans e3) q3
theorem en_cb {r : List V → Hp → VK → Prop} {tr : TA} {As : List Arg} {ds zs : List D} (ha : EvA g tr ρ As ρ1) (hr : RCN g.K r ds zs) (dA : dens ρ1 As = some ds := by rfl) : EvN g (tCB r tr) ρ zs ρ1 := fun c F H σ k s Q q => by
  refine ha c F H σ k s _ fun xs F1 H1 s1 e1 h1 => ?_
  have kk : c.K = g.K := k.1
  have o1 := ArgsAt.opds s1 h1 dA
  rw [kk] at o1
  refine hr F1 H1 xs Q s1.fh o1 fun p vs hp ha => ?_
  exact q p vs F1 H1 s1 e1 hp (by rw [kk]; exact ha)
/-- a method of a built-in type; ty: what the receiver is -/
def TyD (T : String) : D → Prop
  | .list _ => T = "list"
  | .str _ => T = "str"
  | _ => False
theorem tyD_v {F H : Hp} {x : V} {d : D} {T : String} (e : Same F H) (h : Opd K F H x d) (ht : TyD T d) : tyV K T x H := by
  cases d with
  | list ds =>
    obtain ⟨a, vs, rfl, h1, _⟩ := h.list e
    cases (show T = "list" from ht)
    exact .inl ⟨rfl, vs, h1⟩
  | tuple ds =>
    obtain ⟨a, vs, rfl, h1, _⟩ := h.tup e
    exact ht.elim
  | str z =>
    cases h.str
    exact ht
  | none => exact ht.elim
  | bool b => exact ht.elim
  | int b => exact ht.elim
  | dict b => exact ht.elim
end
end DL
namespace DL
open PySem PySem.Spec PyProof.Rows L2
variable [TabC]
variable {K : PySem.W.Frag} {g : Gm}
inductive RetV where
  | dat (d : D)
  | new (w : Ow)
inductive Out where
  | nx (ρ : Rho)
  | rt (ρ : Rho) (r : RetV)
  | bk (ρ : Rho)
  | ct (ρ : Rho)
  | ex (C : Addr) (ρ : Rho)
def RetOk (c : Cc) (F H : Hp) (v : V) : RetV → Prop
  | .dat d => Dx c.K F v d
  | .new w => ∃ a fp, v = .ref a ∧ OwRep c.K F H a fp w ∧ ∀ b ∈ fp, F b = none ∧ H b ≠ none ∧ c.B b = none
structure Cc.okS (c : Cc) (g : Gm) : Prop where
  ok : c.ok g
  wp : ∀ a, c.W a → ∃ j, (j, a) ∈ c.P
structure Post (g : Gm) (c : Cc) (E : Ends) (F : Hp) (P : Out → Prop) : Prop where
  nx : ∀ ρ F' H' σ, P (.nx ρ) → Sim c F' H' σ ρ → Same F F' → E.nx σ H'
  rt : ∀ ρ F' H' σ v r, P (.rt ρ r) → Sim c F' H' σ ρ → Same F F' → RetOk c F' H' v r → E.rt v H'
  bk : ∀ ρ F' H' σ, P (.bk ρ) → Sim c F' H' σ ρ → Same F F' → E.bk σ H'
  ct : ∀ ρ F' H' σ, P (.ct ρ) → Sim c F' H' σ ρ → Same F F' → E.ct σ H'
  ex : ∀ ρ F' H' σ C, P (.ex C ρ) → Sim c F' H' σ ρ → Same F F' → g.xe (.ref C) none H'
def Sv (g : Gm) (ts : TS) (ρ : Rho) (P : Out → Prop) : Prop := ∀ (c : Cc) (F H : Hp) (σ : L2.St) (E : Ends), c.okS g → Sim c F H σ ρ → Post g c E F P → ts E σ H
theorem Post.up {c : Cc} {E : Ends} {F F' : Hp} {P : Out → Prop} (p : Post g c E F P) (e : Same F F') : Post g c E F' P :=
  ⟨fun ρ G H σ a b d => p.nx ρ G H σ a b (e.trans d), fun ρ G H σ v r a b d x => p.rt ρ G H σ v r a b (e.trans d) x, fun ρ G H σ a b d => p.bk ρ G H σ a b (e.trans d), fun ρ G H σ a b d => p.ct ρ G H σ a b (e.trans d), fun ρ G H σ C a b d => p.ex ρ G H σ C a b (e.trans d)⟩
theorem Sv.mono {ts : TS} {ρ : Rho} {P P' : Out → Prop} (h : Sv g ts ρ P) (i : ∀ o, P o → P' o) : Sv g ts ρ P' := fun c F H σ E k s p =>
  h c F H σ E k s ⟨fun ρ G H σ a => p.nx ρ G H σ (i _ a), fun ρ G H σ v r a => p.rt ρ G H σ v r (i _ a), fun ρ G H σ a => p.bk ρ G H σ (i _ a), fun ρ G H σ a => p.ct ρ G H σ (i _ a), fun ρ G H σ C a => p.ex ρ G H σ C (i _ a)⟩
/-- weaker environments: entries forgotten -/
inductive Wk : Rho → Rho → Prop
  | nil : Wk [] []
  | eq {e : Ent} {r r' : Rho} : Wk r r' → Wk (e :: r) (e :: r')
  | no {e : Ent} {r r' : Rho} : Wk r r' → Wk (e :: r) (.no :: r')
theorem Wk.refl : ∀ ρ : Rho, Wk ρ ρ
  | [] => .nil
  | _ :: r => .eq (Wk.refl r)
theorem Wk.len : ∀ {ρ ρ' : Rho}, Wk ρ ρ' → ρ'.length = ρ.length
  | _, _, .nil => rfl
  | _, _, .eq h => by simp [h.len]
  | _, _, .no h => by simp [h.len]
theorem Wk.at : ∀ {ρ ρ' : Rho}, Wk ρ ρ' → ∀ i : Nat, ρ'[i]? = ρ[i]? ∨ ∀ e : Ent, ρ'[i]? = some e → e = .no
  | _, _, .nil, i => .inl rfl
  | _, _, .eq h, 0 => .inl rfl
  | _, _, .eq h, i + 1 => by simpa using h.at i
  | _, _, .no h, 0 => .inr fun e q => by simpa using q.symm
  | _, _, .no h, i + 1 => by simpa using h.at i
/-- the block's next statement -/
def Sq (g : Gm) (u : TS) (P : Out → Prop) : Out → Prop
  | .nx ρ => Sv g u ρ P
  | o => P o
theorem sv_seq {t u : TS} {ρ : Rho} {P : Out → Prop} (h : Sv g t ρ (Sq g u P)) : Sv g (tSeq t u) ρ P := fun c F H σ E k s p => by
  refine h c F H σ { E with nx := u E } k s ⟨fun ρ' F' H' σ' q s' e => ?_, fun ρ' F' H' σ' v r q s' e x => p.rt _ _ _ _ _ _ q s' e x, fun ρ' F' H' σ' q s' e => p.bk _ _ _ _ q s' e, fun ρ' F' H' σ' q s' e => p.ct _ _ _ _ q s' e, fun ρ' F' H' σ' C q s' e => p.ex _ _ _ _ _ q s' e⟩
  exact q c F' H' σ' E k s' (p.up e)
theorem sv_next {ρ : Rho} {P : Out → Prop} (h : P (.nx ρ)) : Sv g tNext ρ P := fun c F H σ E k s p => p.nx _ _ _ _ h s (Same.refl _)
theorem sv_break {ρ : Rho} {P : Out → Prop} (h : P (.bk ρ)) : Sv g tBreak ρ P := fun c F H σ E k s p => p.bk _ _ _ _ h s (Same.refl _)
theorem sv_cont {ρ : Rho} {P : Out → Prop} (h : P (.ct ρ)) : Sv g tCont ρ P := fun c F H σ E k s p => p.ct _ _ _ _ h s (Same.refl _)
/-- what ahead of a point is own is nobody else's -/
theorem notP {c : Cc} {g : Gm} (k : c.okS g) {i : Nat} (h : i ∉ g.ps) : ∀ a, (i, a) ∉ c.P := fun a m => by
  refine h ?_
  rw [← k.ok.2]
  exact List.mem_map.mpr ⟨(i, a), m, rfl⟩
/-- x = e, data -/
theorem sv_set {te : TE} {ρ ρ1 : Rho} {d : D} {i : Nat} {P : Out → Prop} (he : EvD g te ρ d ρ1) (h : P (.nx (ρ1.set i (.dat d)))) (hi : i < ρ1.length := by simp) (hp : i ∉ g.ps := by simp) : Sv g (tAsg te (gName i)) ρ P := fun c F H σ E k s p =>
  he c F H σ k.ok s _ fun v F' H' s' e x => p.nx _ _ _ _ h (s'.setDat x hi (notP k hp)) e
/-- an own thing at a new place gets a name -/
theorem Sim.setOwn {c : Cc} {F H : Hp} {σ : L2.St} {ρ : Rho} (h : Sim c F H σ ρ) {i : Nat} {a : Addr} {f : List Addr} {w : Ow} (hr : OwRep c.K F H a f w) (hf : ∀ b ∈ f, F b = none ∧ H b ≠ none ∧ c.B b = none)
    (hn : ∀ fp, SimF c F H σ ρ fp → ∀ (j : Nat) (w' : Ow) b, ρ[j]? = some (.own w') → b ∈ f → b ∉ fp j) (hi : i < ρ.length) (hP : ∀ a, (i, a) ∉ c.P) : Sim c F H (σ.set i (some (.ref a))) (ρ.set i (.own w)) := by
  obtain ⟨fp, s⟩ := h
  have no := hn fp s
  have hi' : i < σ.length := by rw [s.len]; exact hi
  have own' : ∀ (j : Nat) (w' : Ow), (ρ.set i (.own w))[j]? = some (.own w') → (j = i ∧ w' = w) ∨ (j ≠ i ∧ ρ[j]? = some (.own w')) := fun j w' q => by
    by_cases z : j = i
    · subst z
      rw [List.getElem?_set_self hi] at q
      cases q
      exact .inl ⟨rfl, rfl⟩
    · rw [List.getElem?_set_ne (Ne.symm z)] at q
      exact .inr ⟨z, q⟩
  refine ⟨fun j => if j = i then f else fp j, s.f0, s.fh, s.keep, s.dom, s.av, fun j b m => ?_, fun j d q => ?_, fun j w' q => ?_, fun j w' b q m => ?_, fun j k w' w'' b q q' m m' => ?_, by simpa using s.len, fun j w' b q m k hk => ?_, s.pb, s.tb, s.tw, s.tl, s.ti, s.fl⟩
  · have z : j ≠ i := fun z => hP b (z ▸ m)
    rw [List.getElem?_set_ne (Ne.symm z)]
    exact s.par j b m
  · by_cases z : j = i
    · subst z
      rw [List.getElem?_set_self hi] at q
      cases q
    · rw [List.getElem?_set_ne (Ne.symm z)] at q ⊢
      exact s.dat j d q
  · rcases own' j w' q with ⟨rfl, rfl⟩ | ⟨z, q'⟩
    · exact ⟨a, List.getElem?_set_self hi', by simpa using hr⟩
    · rw [List.getElem?_set_ne (Ne.symm z)]
      simpa [z] using s.own j w' q'
  · rcases own' j w' q with ⟨rfl, rfl⟩ | ⟨z, q'⟩
    · have m' : b ∈ f := by simpa using m
      exact ⟨(hf b m').1, (hf b m').2.1, .inl (hf b m').2.2⟩
    · exact s.ownF j w' b q' (by simpa [z] using m)
  · rcases own' j w' q with ⟨rfl, rfl⟩ | ⟨z, q1⟩
    · rcases own' k w'' q' with ⟨rfl, rfl⟩ | ⟨z', q2⟩
      · rfl
      · exact absurd (by simpa [z'] using m') (no k w'' b q2 (by simpa using m))
    · rcases own' k w'' q' with ⟨rfl, rfl⟩ | ⟨z', q2⟩
      · exact absurd (by simpa [z] using m) (no j w' b q1 (by simpa using m'))
      · exact s.sep j k w' w'' b q1 q2 (by simpa [z] using m) (by simpa [z'] using m')
  · rcases own' j w' q with ⟨rfl, rfl⟩ | ⟨z, q1⟩
    · exact absurd (hf b (by simpa using m)).2.2 (s.pb k b hk)
    · exact s.wp j w' b q1 (by simpa [z] using m) k hk
/-- x = e, a new list of one's own -/
theorem Sim.newList {c : Cc} {F H : Hp} {σ : L2.St} {ρ : Rho} (s : Sim c F H σ ρ) {p : Addr} {vs : List V} {ds : List D} {i : Nat} (hp : H p = none) (ha : DxAll c.K F vs ds) (hi : i < ρ.length) (hP : ∀ a, (i, a) ∉ c.P) :
    Sim c F (upd H p (.lst vs)) (σ.set i (some (.ref p))) (ρ.set i (.own (.lst ds))) := by
  obtain ⟨fp, sf⟩ := id s
  have np : ∀ a, H a ≠ none → a ≠ p := fun a ha z => ha (z ▸ hp)
  have hB : c.B p = none := by
    cases q : c.B p with
    | none => rfl
    | some u => exact absurd hp (sf.dom p (by simp [q]))
  have s2 : SimF c F (upd H p (.lst vs)) σ ρ fp := by
    refine ⟨sf.f0, sf.fh.trans (sameNew hp), fun a u q w l => ?_, fun a q => ?_, sf.av, sf.par, sf.dat, fun i w q => ?_, fun i w b q m => ?_, sf.sep, sf.len, sf.wp, sf.pb, sf.tb, sf.tw, sf.tl, sf.ti.ext (sameNew hp), sf.fl⟩
    · have := sf.keep a u q w l
      rw [upd_ne (np a (by simp [this]))]
      exact this
    · rw [upd_ne (np a (sf.dom a q))]
      exact sf.dom a q
    · obtain ⟨a, e1, e2⟩ := sf.own i w q
      exact ⟨a, e1, e2.up (Same.refl _) fun b m => upd_ne (np b (sf.ownF i w b q m).2.1)⟩
    · obtain ⟨e1, e2, e3⟩ := sf.ownF i w b q m
      exact ⟨e1, by rw [upd_ne (np b e2)]; exact e2, e3⟩
  -- the same footprints serve: argue by hand
  have hi' : i < σ.length := by rw [sf.len]; exact hi
  have own' : ∀ (j : Nat) (w' : Ow), (ρ.set i (.own (.lst ds)))[j]? = some (.own w') → (j = i ∧ w' = .lst ds) ∨ (j ≠ i ∧ ρ[j]? = some (.own w')) := fun j w' q => by
    by_cases z : j = i
    · subst z
      rw [List.getElem?_set_self hi] at q
      cases q
      exact .inl ⟨rfl, rfl⟩
    · rw [List.getElem?_set_ne (Ne.symm z)] at q
      exact .inr ⟨z, q⟩
  have no : ∀ (j : Nat) (w' : Ow), ρ[j]? = some (.own w') → p ∉ fp j := fun j w' q m => (sf.ownF j w' p q m).2.1 hp
  refine ⟨fun j => if j = i then [p] else fp j, s2.f0, s2.fh, s2.keep, s2.dom, s2.av, fun j b m => ?_, fun j d q => ?_, fun j w' q => ?_, fun j w' b q m => ?_, fun j k w' w'' b q q' m m' => ?_, by simpa using sf.len, fun j w' b q m k hk => ?_, sf.pb, sf.tb, sf.tw, sf.tl, s2.ti, s2.fl⟩
  · have z : j ≠ i := fun z => hP b (z ▸ m)
    rw [List.getElem?_set_ne (Ne.symm z)]
    exact s2.par j b m
  · by_cases z : j = i
    · subst z
      rw [List.getElem?_set_self hi] at q
      cases q
    · rw [List.getElem?_set_ne (Ne.symm z)] at q ⊢
      exact s2.dat j d q
  · rcases own' j w' q with ⟨rfl, rfl⟩ | ⟨z, q'⟩
    · refine ⟨p, List.getElem?_set_self hi', ?_⟩
      rw [if_pos rfl]
      exact ⟨rfl, vs, upd_same, ha⟩
    · rw [List.getElem?_set_ne (Ne.symm z)]
      simpa [z] using s2.own j w' q'
  · rcases own' j w' q with ⟨rfl, rfl⟩ | ⟨z, q'⟩
    · have m' : b = p := by simpa using m
      subst m'
      exact ⟨freeF sf.fh hp, by rw [upd_same]; simp, .inl hB⟩
    · exact s2.ownF j w' b q' (by simpa [z] using m)
  · rcases own' j w' q with ⟨rfl, rfl⟩ | ⟨z, q1⟩
    · rcases own' k w'' q' with ⟨rfl, rfl⟩ | ⟨z', q2⟩
      · rfl
      · have e : b = p := by simpa using m
        subst e
        exact absurd (by simpa [z'] using m') (no k w'' q2)
    · rcases own' k w'' q' with ⟨rfl, rfl⟩ | ⟨z', q2⟩
      · have e : b = p := by simpa using m'
        subst e
        exact absurd (by simpa [z] using m) (no j w' q1)
      · exact s2.sep j k w' w'' b q1 q2 (by simpa [z] using m) (by simpa [z'] using m')
  · rcases own' j w' q with ⟨rfl, rfl⟩ | ⟨z, q1⟩
    · have e : b = p := by simpa using m
      subst e
      exact absurd hB (sf.pb k b hk)
    · exact sf.wp j w' b q1 (by simpa [z] using m) k hk
theorem sv_setN {te : TE} {ρ ρ1 : Rho} {ds : List D} {i : Nat} {P : Out → Prop} (he : EvN g te ρ ds ρ1) (h : P (.nx (ρ1.set i (.own (.lst ds))))) (hi : i < ρ1.length := by simp) (hp : i ∉ g.ps := by simp) : Sv g (tAsg te (gName i)) ρ P := fun c F H σ E k s p =>
  he c F H σ k.ok s _ fun q vs F' H' s' e hq x => p.nx _ _ _ _ h (s'.newList hq x hi (notP k hp)) e
/-- if -/
theorem sv_if {tc : TT} {t u : TS} {ρ ρ1 : Rho} {b : Bool} {P : Out → Prop} (hc : EvT g tc ρ b ρ1) (h1 : b = true → Sv g t ρ1 P) (h2 : b = false → Sv g u ρ1 P) : Sv g (tIfS tc t u) ρ P := fun c F H σ E k s p =>
  hc c F H σ k.ok s _ fun F' H' s' e => by
    cases b with
    | true => exact h1 rfl c F' H' σ E k s' (p.up e)
    | false => exact h2 rfl c F' H' σ E k s' (p.up e)
/-- return data -/
theorem sv_ret {te : TE} {ρ ρ1 : Rho} {d : D} {P : Out → Prop} (he : EvD g te ρ d ρ1) (h : P (.rt ρ1 (.dat d))) : Sv g (tRet te) ρ P := fun c F H σ E k s p =>
  he c F H σ k.ok s _ fun v F' H' s' e x => p.rt _ _ _ _ _ _ h s' e x
theorem sv_retNone {ρ : Rho} {P : Out → Prop} (h : P (.rt ρ (.dat .none))) : Sv g tRetN ρ P := fun c F H σ E k s p => p.rt _ _ _ _ _ _ h s (Same.refl _) .non
/-- return a new list -/
theorem sv_retN {te : TE} {ρ ρ1 : Rho} {ds : List D} {P : Out → Prop} (he : EvN g te ρ ds ρ1) (h : P (.rt ρ1 (.new (.lst ds)))) : Sv g (tRet te) ρ P := fun c F H σ E k s p =>
  he c F H σ k.ok s _ fun q vs F' H' s' e hq x => p.rt _ _ _ _ _ _ h (s'.heap hq) e ⟨q, [q], rfl, ⟨rfl, vs, upd_same, x⟩, fun b m => by
    have z : b = q := by simpa using m
    subst z
    refine ⟨freeF s'.fh hq, by rw [upd_same]; simp, ?_⟩
    obtain ⟨fp, sf⟩ := s'
    cases q : c.B b with
    | none => rfl
    | some u => exact absurd hq (sf.dom b (by simp [q]))⟩
/-- return a name that holds a thing of one's own -/
theorem sv_retOwn {ρ : Rho} {w : Ow} {i : Nat} {P : Out → Prop} (he : ρ[i]? = some (.own w)) (h : P (.rt (ρ.set i .no) (.new w))) (hj : i ∉ g.ps := by simp) : Sv g (tRet (tVar i)) ρ P := fun c F H σ E k s p => by
  obtain ⟨fp, sf⟩ := id s
  obtain ⟨a, e1, e2⟩ := sf.own i w he
  refine ⟨.ref a, e1, p.rt _ F H σ _ _ h (s.weak (by simp) fun j => ?_) (Same.refl _) ⟨a, fp i, rfl, e2, fun b m => ?_⟩⟩
  · by_cases z : j = i
    · subst z
      refine .inr fun e q => ?_
      by_cases hl : j < ρ.length
      · rw [List.getElem?_set_self hl] at q
        exact (Option.some.inj q).symm
      · rw [List.getElem?_eq_none (by simpa using hl)] at q
        cases q
    · rw [List.getElem?_set_ne (Ne.symm z)]
      exact .inl rfl
  · obtain ⟨q1, q2, q3⟩ := sf.ownF i w b he m
    refine ⟨q1, q2, q3.resolve_right fun z => ?_⟩
    obtain ⟨j, hj'⟩ := k.wp b z
    have := sf.wp i w b he m j hj'
    subst this
    exact notP k hj b hj'
/-- an expression for what it does -/
theorem sv_drop {te : TE} {ρ ρ1 : Rho} {d : D} {P : Out → Prop} (he : EvD g te ρ d ρ1) (h : P (.nx ρ1)) : Sv g (tDrop te) ρ P := fun c F H σ E k s p =>
  he c F H σ k.ok s _ fun v F' H' s' e x => p.nx _ _ _ _ h s' e
end DL
namespace DL
open PySem PySem.Spec PyProof.Rows L2
variable [TabC]
variable {K : PySem.W.Frag} {g : Gm}
section
variable {ta tb te : TE} {t u : TT} {ρ ρ1 ρ2 : Rho} {a b : Bool} {d : D}
theorem et_test (h : EvD g te ρ (.bool b) ρ1) : EvT g (tTest te) ρ b ρ1 := fun c F H σ k s Q q => h c F H σ k s _ fun v F' H' s' e x => by
  cases x
  exact ⟨b, rfl, q F' H' s' e⟩
theorem et_B (h : EvD g te ρ (.bool b) ρ1) : EvT g (tB te) ρ b ρ1 := fun c F H σ k s Q q => h c F H σ k s _ fun v F' H' s' e x => by
  cases x
  exact ⟨b, rfl, q F' H' s' e⟩
theorem et_not (h1 : EvT g t ρ a ρ1) : EvT g (tNot t) ρ (!a) ρ1 := fun c F H σ k s Q q => h1 c F H σ k s _ fun F1 H1 s1 e1 => q F1 H1 s1 e1
theorem ed_and (h1 : EvD g ta ρ (.bool a) ρ1) (h2 : a = true → EvD g tb ρ1 (.bool b) ρ1) : EvD g (tAndV ta tb) ρ (.bool (a && b)) ρ1 := fun c F H σ k s Q q => h1 c F H σ k s _ fun v F1 H1 s1 e1 x => by
  cases x
  refine ⟨a, rfl, ?_⟩
  cases a with
  | true => exact h2 rfl c F1 H1 σ k s1 Q fun v F2 H2 s2 e2 y => q v F2 H2 s2 (e1.trans e2) y
  | false => exact q _ F1 H1 s1 e1 (.bl _)
theorem ed_or (h1 : EvD g ta ρ (.bool a) ρ1) (h2 : a = false → EvD g tb ρ1 (.bool b) ρ1) : EvD g (tOrV ta tb) ρ (.bool (a || b)) ρ1 := fun c F H σ k s Q q => h1 c F H σ k s _ fun v F1 H1 s1 e1 x => by
  cases x
  refine ⟨a, rfl, ?_⟩
  cases a with
  | true => exact q _ F1 H1 s1 e1 (.bl _)
  | false => exact h2 rfl c F1 H1 σ k s1 Q fun v F2 H2 s2 e2 y => q v F2 H2 s2 (e1.trans e2) y
theorem ed_not (h1 : EvD g ta ρ (.bool a) ρ1) : EvD g (tNotV ta) ρ (.bool (!a)) ρ1 := fun c F H σ k s Q q => h1 c F H σ k s _ fun v F1 H1 s1 e1 x => by
  cases x
  exact ⟨a, rfl, q _ F1 H1 s1 e1 (.bl _)⟩
/-- is None, is not None -/
def notNone : D → Bool
  | .none => false
  | _ => true
theorem dp_non {F : Hp} {v : V} (h : Dx K F v d) : decide (v = .non) = !notNone d := by
  cases h <;> rfl
theorem ed_isN (h : EvD g ta ρ d ρ1) : EvD g (tIsN ta) ρ (.bool (!notNone d)) ρ1 := fun c F H σ k s Q q => h c F H σ k s _ fun v F1 H1 s1 e1 x => by
  rw [dp_non x]
  exact q _ F1 H1 s1 e1 (.bl _)
theorem ed_notN (h : EvD g ta ρ d ρ1) : EvD g (tNotN ta) ρ (.bool (notNone d)) ρ1 := fun c F H σ k s Q q => h c F H σ k s _ fun v F1 H1 s1 e1 x => by
  rw [dp_non x, Bool.not_not]
  exact q _ F1 H1 s1 e1 (.bl _)
end
section
variable {i j : Int} {d e z : D} {r r' : R2} {xs ys ds : List D}
theorem r2_or1 (h : R2D K r d e z) : R2D K (fun x y H Q => r x y H Q ∨ r' x y H Q) d e z := fun F H x y Q f a b q => .inl (h F H x y Q f a b q)
theorem r2_or2 (h : R2D K r' d e z) : R2D K (fun x y H Q => r x y H Q ∨ r' x y H Q) d e z := fun F H x y Q f a b q => .inr (h F H x y Q f a b q)
theorem r2_int {f : Int → Int → Int} : R2D K (rI0 fun i j => .int (f i j)) (.int i) (.int j) (.int (f i j)) := fun F H x y Q _ a b q => ⟨i, j, a.int, b.int, q _ F H (.at (.int _))⟩
theorem r2_intC {C : Int → Int → Prop} {f : Int → Int → Int} (hc : C i j) : R2D K (rI C fun i j => .int (f i j)) (.int i) (.int j) (.int (f i j)) := fun F H x y Q _ a b q => ⟨i, j, a.int, b.int, hc, q _ F H (.at (.int _))⟩
theorem r2_bl {f : Int → Int → Bool} : R2D K (rI0 fun i j => .bl (f i j)) (.int i) (.int j) (.bool (f i j)) := fun F H x y Q _ a b q => ⟨i, j, a.int, b.int, q _ F H (.at (.bl _))⟩
theorem r2_eqD (h1 : SeqAt.shaped d = true) (h2 : SeqAt.shaped e = true) : R2D K (rEqD K) d e (.bool (PyData.eqv d e)) := fun F H x y Q f a b q => ⟨d, e, (a.dp f).old (noDct h1), (b.dp f).old (noDct h2), h1, h2, q _ F H (.at (.bl _))⟩
theorem r2_neD (h1 : SeqAt.shaped d = true) (h2 : SeqAt.shaped e = true) : R2D K (rNeD K) d e (.bool (!PyData.eqv d e)) := fun F H x y Q f a b q => ⟨d, e, (a.dp f).old (noDct h1), (b.dp f).old (noDct h2), h1, h2, q _ F H (.at (.bl _))⟩
theorem r2_inD (h1 : SeqAt.shaped d = true) (h2 : SeqAt.shaped (.list ds) = true) : R2D K (rInD K) d (.list ds) (.bool (ds.any fun z => PyData.eqv z d)) := fun F H x y Q f a b q => ⟨d, ds, (a.dp f).old (noDct h1), (b.dp f).old (noDct h2), h1, h2, q _ F H (.at (.bl _))⟩
theorem r2_notInD (h1 : SeqAt.shaped d = true) (h2 : SeqAt.shaped (.list ds) = true) : R2D K (rNotInD K) d (.list ds) (.bool (!ds.any fun z => PyData.eqv z d)) := fun F H x y Q f a b q => ⟨d, ds, (a.dp f).old (noDct h1), (b.dp f).old (noDct h2), h1, h2, q _ F H (.at (.bl _))⟩
theorem r2_catT (hz : xs.length + ys.length ≤ sizeLine) : R2D K (rCatX K) (.tuple xs) (.tuple ys) (.tuple (xs ++ ys)) := fun F H x y Q f a b q => by
  obtain ⟨p1, v1, rfl, h1, k1⟩ := a.tup f
  obtain ⟨p2, v2, rfl, h2, k2⟩ := b.tup f
  have l1 := dpAllLen k1
  have l2 := dpAllLen k2
  refine ⟨p1, p2, v1, v2, rfl, rfl, h1, h2, by omega, fun e1 => ?_, fun _ e2 => ?_, fun _ _ p o hp ho => q _ _ _ (.new hp ho (dpAllApp k1 k2))⟩
  · subst e1
    cases k1
    exact q _ F H (.at (b.elim id fun ⟨_, _, _, _, z, _⟩ => by cases z))
  · subst e2
    cases k2
    rw [List.append_nil] at q
    exact q _ F H (.at (a.elim id fun ⟨_, _, _, _, z, _⟩ => by cases z))
theorem atI_dp {F : Hp} {vs : List V} (h : DxAll K F vs ds) (hd : atI ds i = some d) : ∃ v, atI vs i = some v ∧ Dx K F v d := by
  unfold atI at hd ⊢
  rw [dpAllLen h]
  cases q : ixN ds.length i with
  | none => rw [q] at hd; cases hd
  | some j =>
    rw [q] at hd
    exact dpAllGet h hd
theorem r2_ixL (hd : atI ds i = some d) : R2D K (rIxL K) (.list ds) (.int i) d := fun F H x y Q f a b q => by
  obtain ⟨p, vs, rfl, h1, k1⟩ := a.list f
  obtain ⟨v, e1, e2⟩ := atI_dp k1 hd
  exact ⟨p, vs, i, v, rfl, b.int, h1, e1, q _ F H (.at e2)⟩
theorem r2_ixT (hd : atI ds i = some d) : R2D K (rIxT K) (.tuple ds) (.int i) d := fun F H x y Q f a b q => by
  obtain ⟨p, vs, rfl, h1, k1⟩ := a.tup f
  obtain ⟨v, e1, e2⟩ := atI_dp k1 hd
  exact ⟨p, vs, i, v, rfl, b.int, h1, e1, q _ F H (.at e2)⟩
theorem r2_ixS {z : Str} {cp : Nat} (hl : z.length ≤ sizeLine) (hd : atI z.cps.toList i = some cp) : R2D K rIxS (.str z) (.int i) (.str ⟨#[cp]⟩) := fun F H x y Q f a b q => ⟨z, i, cp, a.str, b.int, hl, hd, q _ F H (.at (.str _))⟩
theorem rx_L (hd : atI ds i = some d) : R2D K (rIx K) (.list ds) (.int i) d := r2_or1 (r2_ixL hd)
theorem rx_T (hd : atI ds i = some d) : R2D K (rIx K) (.tuple ds) (.int i) d := r2_or2 (r2_or1 (r2_ixT hd))
theorem rx_S {z : Str} {cp : Nat} (hl : z.length ≤ sizeLine) (hd : atI z.cps.toList i = some cp) : R2D K (rIx K) (.str z) (.int i) (.str ⟨#[cp]⟩) := r2_or2 (r2_or2 (r2_ixS hl hd))
theorem ru_neg : R1D K (rU fun i => .int (-i)) (.int i) (.int (-i)) := fun F H x Q f a q => ⟨i, a.int, q _ F H (.at (.int _))⟩
theorem OpdAll.one {F H : Hp} {vs : List V} (h : OpdAll K F H vs [d]) : ∃ v, vs = [v] ∧ Opd K F H v d := by
  cases h with
  | cons a t => cases t; exact ⟨_, rfl, a⟩
theorem OpdAll.two {F H : Hp} {vs : List V} (h : OpdAll K F H vs [d, e]) : ∃ v w, vs = [v, w] ∧ Opd K F H v d ∧ Opd K F H w e := by
  cases h with
  | cons a t =>
    cases t with
    | cons b t => cases t; exact ⟨_, _, rfl, a, b⟩
def rLen (K : PySem.W.Frag) : List V → Hp → VK → Prop := fun xs H Q => ∃ p ys, xs = [.ref p] ∧ (SqL K H p ys ∨ SqT K H p ys) ∧ Q (.int ys.length) H
theorem cr_len {X : Cx} : CallR X (.builtin "len") (rLen X.K) := call_len_seq
theorem rc_lenL : RCD K (rLen K) [.list ds] (.int ds.length) := fun F H xs Q f a q => by
  obtain ⟨v, rfl, a1⟩ := a.one
  clear a
  have a := a1
  obtain ⟨p, vs, rfl, h1, k1⟩ := a.list f
  exact ⟨p, vs, rfl, .inl h1, by rw [dpAllLen k1]; exact q _ F H (.at (.int _))⟩
theorem rc_lenT : RCD K (rLen K) [.tuple ds] (.int ds.length) := fun F H xs Q f a q => by
  obtain ⟨v, rfl, a1⟩ := a.one
  clear a
  have a := a1
  obtain ⟨p, vs, rfl, h1, k1⟩ := a.tup f
  exact ⟨p, vs, rfl, .inr h1, by rw [dpAllLen k1]; exact q _ F H (.at (.int _))⟩
def rAbs : List V → Hp → VK → Prop := fun xs H Q => ∃ i, xs = [.int i] ∧ Q (.int (if i < 0 then -i else i)) H
theorem cr_abs {X : Cx} : CallR X (.builtin "abs") rAbs := call_abs
theorem rc_abs : RCD K rAbs [.int i] (.int (if i < 0 then -i else i)) := fun F H xs Q f a q => by
  obtain ⟨v, rfl, a1⟩ := a.one
  clear a
  have a := a1
  exact ⟨i, by rw [a.int], q _ F H (.at (.int _))⟩
def rInt1 : List V → Hp → VK → Prop := fun xs H Q => (∃ i, xs = [.int i] ∧ Q (.int i) H) ∨ ∃ k, xs = [.bl k] ∧ Q (.int (if k then 1 else 0)) H
theorem cr_int {X : Cx} : CallR X (.type "int") rInt1 := call_int1
theorem rc_int : RCD K rInt1 [.int i] (.int i) := fun F H xs Q f a q => by
  obtain ⟨v, rfl, a1⟩ := a.one
  clear a
  have a := a1
  exact .inl ⟨i, by rw [a.int], q _ F H (.at (.int _))⟩
theorem rc_intB {b : Bool} : RCD K rInt1 [.bool b] (.int (if b then 1 else 0)) := fun F H xs Q f a q => by
  obtain ⟨v, rfl, a1⟩ := a.one
  clear a
  have a := a1
  exact .inr ⟨b, by rw [a.bl], q _ F H (.at (.int _))⟩
abbrev rTuple := rTupleX
theorem cr_tuple {X : Cx} : CallR X (.type "tuple") (rTuple X.K) := cr_tupleX
theorem rc_tupL : RCD K (rTuple K) [.list ds] (.tuple ds) := fun F H xs Q f a q => by
  obtain ⟨v, rfl, a1⟩ := a.one
  clear a
  have a := a1
  obtain ⟨p, vs, rfl, h1, k1⟩ := a.list f
  exact ⟨p, vs, rfl, .inl ⟨h1, fun l o hl ho => q _ _ _ (.new hl ho k1)⟩⟩
def rList (K : PySem.W.Frag) : List V → Hp → VK → Prop := fun xs H Q => ∃ p ys, xs = [.ref p] ∧ (SqL K H p ys ∨ SqT K H p ys) ∧ ∀ l, H l = none → Q (.ref l) (upd H l (.lst ys))
theorem cr_list {X : Cx} : CallR X (.type "list") (rList X.K) := call_list_of
theorem rc_listL : RCN K (rList K) [.list ds] ds := fun F H xs Q f a q => by
  obtain ⟨v, rfl, a1⟩ := a.one
  clear a
  have a := a1
  obtain ⟨p, vs, rfl, h1, k1⟩ := a.list f
  exact ⟨p, vs, rfl, .inl h1, fun l hl => q l vs hl k1⟩
theorem rc_listT : RCN K (rList K) [.tuple ds] ds := fun F H xs Q f a q => by
  obtain ⟨v, rfl, a1⟩ := a.one
  clear a
  have a := a1
  obtain ⟨p, vs, rfl, h1, k1⟩ := a.tup f
  exact ⟨p, vs, rfl, .inr h1, fun l hl => q l vs hl k1⟩
theorem dp_bools {F : Hp} : ∀ {vs : List V} {bs : List Bool}, DxAll K F vs (bs.map .bool) → vs = bs.map .bl
  | _, [], .nil => rfl
  | _, b :: bs, .cons h t => by
    cases h
    rw [dp_bools t]
    rfl
theorem dp_ints {F : Hp} : ∀ {vs : List V} {ns : List Int}, DxAll K F vs (ns.map .int) → vs = ns.map .int
  | _, [], .nil => rfl
  | _, b :: bs, .cons h t => by
    cases h
    rw [dp_ints t]
    rfl
theorem dp_strs {F : Hp} : ∀ {vs : List V} {ns : List Str}, DxAll K F vs (ns.map .str) → vs = ns.map .str
  | _, [], .nil => rfl
  | _, b :: bs, .cons h t => by
    cases h
    rw [dp_strs t]
    rfl
theorem dpInts {F : Hp} : ∀ ns : List Int, DxAll K F (ns.map .int) (ns.map .int)
  | [] => .nil
  | n :: ns => .cons (.int n) (dpInts ns)
theorem rc_all {bs : List Bool} : RCD K (rAll K) [.list (bs.map .bool)] (.bool (bs.all id)) := fun F H xs Q f a q => by
  obtain ⟨v, rfl, a1⟩ := a.one
  clear a
  have a := a1
  obtain ⟨p, vs, rfl, h1, k1⟩ := a.list f
  rw [dp_bools k1] at h1
  exact ⟨p, bs, rfl, h1, q _ F H (.at (.bl _))⟩
theorem rc_any {bs : List Bool} : RCD K (rAny K) [.list (bs.map .bool)] (.bool (bs.any id)) := fun F H xs Q f a q => by
  obtain ⟨v, rfl, a1⟩ := a.one
  clear a
  have a := a1
  obtain ⟨p, vs, rfl, h1, k1⟩ := a.list f
  rw [dp_bools k1] at h1
  exact ⟨p, bs, rfl, h1, q _ F H (.at (.bl _))⟩
end
section
variable {ta : TA} {ρ ρ1 : Rho}
/-- the arguments are frozen data -/
def datas : List Arg → Option (List D)
  | [] => some []
  | .d x :: As => match datas As with
    | some ds => some (x :: ds)
    | none => none
  | .o _ :: _ => none
theorem ArgsAt.datas {F : Hp} {σ : L2.St} : ∀ {vs : List V} {As : List Arg} {ds : List D}, ArgsAt K F σ vs As → DL.datas As = some ds → DxAll K F vs ds
  | _, _, _, .nil, e => by cases e; exact .nil
  | _, .d x :: As, _, .cons (.d a) t, e => by
    unfold DL.datas at e
    split at e
    · rename_i ds e2
      cases e
      exact .cons a (ArgsAt.datas t e2)
    · cases e
  | _, .o _ :: _, _, .cons (.o a) t, e => by cases e
theorem ed_tup {As : List Arg} {ds : List D} (h : EvA g ta ρ As ρ1) (hd : datas As = some ds := by rfl) (hz : ds.length ≤ sizeLine := by decide) : EvD g (tTupX ta) ρ (.tuple ds) ρ1 := fun c F H σ k s Q q =>
  h c F H σ k s _ fun vs F1 H1 s1 e1 h1 => by
    have a := h1.datas hd
    refine ⟨by rw [dpAllLen a]; exact hz, fun p o hp ho => ?_⟩
    have e2 : Same F1 (upd F1 p (.frz o (.tup vs))) := sameNew (freeF s1.fh hp)
    exact q _ _ _ (s1.grow hp) (e1.trans e2) (.tup (.inl ⟨o, upd_same, ho⟩) (dpAllUp e2 a))
theorem en_lst {As : List Arg} {ds : List D} (h : EvA g ta ρ As ρ1) (hd : datas As = some ds := by rfl) (hz : ds.length ≤ sizeLine := by decide) : EvN g (tLst ta) ρ ds ρ1 := fun c F H σ k s Q q =>
  h c F H σ k s _ fun vs F1 H1 s1 e1 h1 => by
    have a := h1.datas hd
    exact ⟨by rw [dpAllLen a]; exact hz, fun p hp => q p vs F1 H1 s1 e1 hp a⟩
end
def EvP (g : Gm) (to : TO) (ρ : Rho) (o : Option Int) (ρ' : Rho) : Prop := ∀ (c : Cc) (F H : Hp) (σ : L2.St), c.ok g → Sim c F H σ ρ → ∀ Q : Option Int → Hp → Prop, (∀ F' H', Sim c F' H' σ ρ' → Same F F' → Q o H') → to σ H Q
theorem ep_no {ρ : Rho} : EvP g tNoPart ρ none ρ := fun c F H σ k s Q q => q F H s (Same.refl _)
theorem ep_some {te : TE} {ρ ρ1 : Rho} {i : Int} (h : EvD g te ρ (.int i) ρ1) : EvP g (tPart te) ρ (some i) ρ1 := fun c F H σ k s Q q => h c F H σ k s _ fun v F1 H1 s1 e1 x => by
  cases x
  exact ⟨i, rfl, q F1 H1 s1 e1⟩
def RSD (K : PySem.W.Frag) (r : V → Option Int → Option Int → Hp → VK → Prop) (d : D) (lo hi : Option Int) (z : D) : Prop := ∀ F H x (Q : VK), Same F H → Opd K F H x d → (∀ v F' H', Res K F H v z F' H' → Q v H') → r x lo hi H Q
def RSN (K : PySem.W.Frag) (r : V → Option Int → Option Int → Hp → VK → Prop) (d : D) (lo hi : Option Int) (zs : List D) : Prop := ∀ F H x (Q : VK), Same F H → Opd K F H x d → (∀ p vs, H p = none → DxAll K F vs zs → Q (.ref p) (upd H p (.lst vs))) → r x lo hi H Q
section
variable {te : TE} {tl th : TO} {ρ ρ1 ρ2 ρ3 : Rho} {lo hi : Option Int} {d z : D} {A : Arg} {r : V → Option Int → Option Int → Hp → VK → Prop}
theorem ed_sl (ha : EvO g te ρ A ρ1) (hl : EvP g tl ρ1 lo ρ2) (hh : EvP g th ρ2 hi ρ3) (hr : RSD g.K r d lo hi z) (dA : A.den ρ3 = some d := by rfl) : EvD g (tSl r te tl th) ρ z ρ3 := fun c F H σ k s Q q =>
  ha c F H σ k s _ fun x F1 H1 s1 e1 h1 => hl c F1 H1 σ k s1 _ fun F2 H2 s2 e2 => hh c F2 H2 σ k s2 _ fun F3 H3 s3 e3 => by
    have kk : c.K = g.K := k.1
    have o := Arg.opd s3 (h1.up (e2.trans e3)) dA
    rw [kk] at o
    refine hr F3 H3 x Q s3.fh o fun v F4 H4 rs => ?_
    rw [← kk] at rs
    obtain ⟨s4, e4, q4⟩ := rs.sim s3
    exact q v F4 H4 s4 (((e1.trans e2).trans e3).trans e4) q4
theorem en_sl {zs : List D} (ha : EvO g te ρ A ρ1) (hl : EvP g tl ρ1 lo ρ2) (hh : EvP g th ρ2 hi ρ3) (hr : RSN g.K r d lo hi zs) (dA : A.den ρ3 = some d := by rfl) : EvN g (tSl r te tl th) ρ zs ρ3 := fun c F H σ k s Q q =>
  ha c F H σ k s _ fun x F1 H1 s1 e1 h1 => hl c F1 H1 σ k s1 _ fun F2 H2 s2 e2 => hh c F2 H2 σ k s2 _ fun F3 H3 s3 e3 => by
    have kk : c.K = g.K := k.1
    have o := Arg.opd s3 (h1.up (e2.trans e3)) dA
    rw [kk] at o
    exact hr F3 H3 x Q s3.fh o fun p vs hp a => q p vs F3 H3 s3 ((e1.trans e2).trans e3) hp (by rw [kk]; exact a)
end
def cutD (xs : List D) (lo hi : Option Int) : List D := (xs.drop (HT.sIx xs.length 0 lo)).take (HT.sIx xs.length xs.length hi - HT.sIx xs.length 0 lo)
theorem dp_cut {F : Hp} {vs : List V} {ds : List D} (h : DxAll K F vs ds) (lo hi : Option Int) : DxAll K F (cutV vs lo hi) (cutD ds lo hi) := by
  unfold cutV cutD
  rw [dpAllLen h]
  exact dpAllTake _ (dpAllDrop _ h)
theorem rs_tup {ds : List D} {lo hi : Option Int} : RSD K (rSlX K) (.tuple ds) lo hi (.tuple (cutD ds lo hi)) := fun F H x Q f a q => by
  obtain ⟨p, vs, rfl, h1, k1⟩ := a.tup f
  have hl := dpAllLen k1
  refine ⟨p, vs, rfl, h1, fun ⟨e1, e2⟩ => ?_, fun _ l o hl ho => q _ _ _ (.new hl ho (dp_cut k1 lo hi))⟩
  rw [hl] at e1 e2
  have e : cutD ds lo hi = ds := by
    unfold cutD
    rw [e1, e2]
    simp
  rw [e] at q
  exact q _ F H (.at (a.elim id fun ⟨_, _, _, _, z, _⟩ => by cases z))
theorem rs_list {ds : List D} {lo hi : Option Int} : RSN K (rSlL K) (.list ds) lo hi (cutD ds lo hi) := fun F H x Q f a q => by
  obtain ⟨p, vs, rfl, h1, k1⟩ := a.list f
  exact ⟨p, vs, rfl, h1, fun l hl => q l _ hl (dp_cut k1 lo hi)⟩
end DL
namespace DL
open PySem PySem.Spec PyProof.Rows L2
variable [TabC]
variable {K : PySem.W.Frag} {g : Gm}
/-- the object of an own list is another list now -/
theorem Sim.setLst {c : Cc} {F H : Hp} {σ : L2.St} {ρ : Rho} (s : Sim c F H σ ρ) {i : Nat} {ds ds' : List D} {a : Addr} {vs' : List V} (he : ρ[i]? = some (.own (.lst ds))) (hσ : σ[i]? = some (some (.ref a))) (ha : DxAll c.K F vs' ds') :
    Sim c F (upd H a (.lst vs')) σ (ρ.set i (.own (.lst ds'))) := by
  obtain ⟨fp, s⟩ := s
  obtain ⟨a', e1, e2, vs, e3, e4⟩ := s.own i _ he
  have ea : a' = a := by
    rw [hσ] at e1
    cases e1
    rfl
  subst ea
  have m0 : a' ∈ fp i := by rw [e2]; simp
  have hi : i < ρ.length := (List.getElem?_eq_some_iff.mp he).1
  obtain ⟨q1, q2, q3⟩ := s.ownF i _ a' he m0
  have own' : ∀ (j : Nat) (w' : Ow), (ρ.set i (.own (.lst ds')))[j]? = some (.own w') → (j = i ∧ w' = .lst ds') ∨ (j ≠ i ∧ ρ[j]? = some (.own w')) := fun j w' q => by
    by_cases z : j = i
    · subst z
      rw [List.getElem?_set_self hi] at q
      cases q
      exact .inl ⟨rfl, rfl⟩
    · rw [List.getElem?_set_ne (Ne.symm z)] at q
      exact .inr ⟨z, q⟩
  have old : ∀ (j : Nat) (w' : Ow), (ρ.set i (.own (.lst ds')))[j]? = some (.own w') → ∃ w0, ρ[j]? = some (.own w0) := fun j w' q => by
    rcases own' j w' q with ⟨rfl, _⟩ | ⟨_, q⟩
    · exact ⟨_, he⟩
    · exact ⟨_, q⟩
  refine ⟨fp, s.f0, sameUpd s.fh q1, fun b u q w l => ?_, fun b q => ?_, s.av, s.par, fun j d q => ?_, fun j w q => ?_, fun j w b q m => ?_, fun j k w w' b q q' m m' => ?_, by simpa using s.len, fun j w b q m k hk => ?_, s.pb, s.tb, s.tw, s.tl, s.ti.own (s.kind he m0), s.fl⟩
  · have z : b ≠ a' := fun z => by
      subst z
      rcases q3 with q3 | q3
      · rw [q3] at q; cases q
      · exact w q3
    rw [upd_ne z]
    exact s.keep b u q w l
  · by_cases z : b = a'
    · rw [z, upd_same]; simp
    · rw [upd_ne z]; exact s.dom b q
  · by_cases z : j = i
    · subst z
      rw [List.getElem?_set_self hi] at q
      cases q
    · rw [List.getElem?_set_ne (Ne.symm z)] at q
      exact s.dat j d q
  · rcases own' j w q with ⟨rfl, rfl⟩ | ⟨z, q⟩
    · exact ⟨a', e1, e2, vs', upd_same, ha⟩
    · obtain ⟨b, k1, k2⟩ := s.own j w q
      refine ⟨b, k1, k2.up (Same.refl _) fun x m => upd_ne fun e => ?_⟩
      subst e
      exact z (s.sep j i w _ x q he m m0)
  · obtain ⟨w0, q0⟩ := old j w q
    obtain ⟨k1, k2, k3⟩ := s.ownF j w0 b q0 m
    refine ⟨k1, ?_, k3⟩
    by_cases z : b = a'
    · rw [z, upd_same]; simp
    · rw [upd_ne z]; exact k2
  · obtain ⟨w0, q0⟩ := old j w q
    obtain ⟨w1, q1⟩ := old k w' q'
    exact s.sep j k w0 w1 b q0 q1 m m'
  · obtain ⟨w0, q0⟩ := old j w q
    exact s.wp j w0 b q0 m k hk
theorem Sim.lstAt {c : Cc} {F H : Hp} {σ : L2.St} {ρ : Rho} (s : Sim c F H σ ρ) {i : Nat} {ds : List D} (he : ρ[i]? = some (.own (.lst ds))) : ∃ a vs, σ[i]? = some (some (.ref a)) ∧ H a = some (.lst vs) ∧ F a = none ∧ DxAll c.K F vs ds := by
  obtain ⟨fp, s⟩ := s
  obtain ⟨a, e1, e2, vs, e3, e4⟩ := s.own i _ he
  exact ⟨a, vs, e1, e3, (s.ownF i _ a he (by rw [e2]; simp)).1, e4⟩
theorem some_inj2 {σ : L2.St} {i : Nat} {a b : Addr} (h1 : σ[i]? = some (some (.ref a))) (h2 : σ[i]? = some (some (.ref b))) : a = b := by
  rw [h1] at h2
  cases h2
  rfl
section
variable {te ti : TE} {ρ ρ1 ρ2 : Rho} {d : D} {ds ds0 : List D} {i : Nat} {P : Out → Prop}
/-- x.append(e) -/
theorem sv_append (h0 : ρ[i]? = some (.own (.lst ds0))) (he : EvD g te ρ d ρ1) (h1 : ρ1[i]? = some (.own (.lst ds))) (hz : ds.length < sizeLine) (h : P (.nx (ρ1.set i (.own (.lst (ds ++ [d])))))) :
    Sv g (tDrop (tBM g.K "list" rAppend (tVar i) (tCons te tNil))) ρ P := fun c F H σ E k s p => by
  obtain ⟨a, vs, e1, e2, e3, e4⟩ := s.lstAt h0
  refine ⟨.ref a, e1, .inl ⟨rfl, vs, .inl (.inl e2)⟩, he c F H σ k.ok s _ fun v F1 H1 s1 q1 x => ?_⟩
  obtain ⟨b, ws, f1, f2, f3, f4⟩ := s1.lstAt h1
  have := some_inj2 e1 f1
  subst this
  refine ⟨a, ws, v, rfl, rfl, f2, by rw [dpAllLen f4]; exact hz, ?_⟩
  exact p.nx _ _ _ _ h (s1.setLst h1 f1 (dpAllApp f4 (.cons x .nil))) q1
/-- x[e] = e' -/
theorem sv_setItem {j : Nat} {n : Int} (he : EvD g te ρ d ρ1) (hi : EvD g ti ρ1 (.int n) ρ2) (h0 : ρ1[i]? = some (.own (.lst ds0))) (h1 : ρ2[i]? = some (.own (.lst ds))) (hj : ixN ds.length n = some j) (h : P (.nx (ρ2.set i (.own (.lst (ds.set j d)))))) :
    Sv g (tAsg te (gSub (tVar i) ti rSetL)) ρ P := fun c F H σ E k s p => by
  refine he c F H σ k.ok s _ fun v F1 H1 s1 q1 x => ?_
  obtain ⟨a, vs, e1, e2, e3, e4⟩ := s1.lstAt h0
  refine ⟨.ref a, e1, hi c F1 H1 σ k.ok s1 _ fun w F2 H2 s2 q2 y => ?_⟩
  cases y
  obtain ⟨b, ws, f1, f2, f3, f4⟩ := s2.lstAt h1
  have := some_inj2 e1 f1
  subst this
  refine ⟨a, ws, n, j, rfl, rfl, f2, by rw [dpAllLen f4]; exact hj, ?_⟩
  exact p.nx _ _ _ _ h (s2.setLst h1 f1 (dpAllSet (dpUp q2 x) j f4)) (q1.trans q2)
/-- an own list is looked at as data from here on -/
theorem Sim.frz {c : Cc} {F H : Hp} {σ : L2.St} (s : Sim c F H σ ρ) (h0 : ρ[i]? = some (.own (.lst ds))) (hP : ∀ (a : Addr), (i, a) ∉ c.P) (hW : ∀ a, c.W a → ∃ j, (j, a) ∈ c.P) : ∃ F', Same F F' ∧ Sim c F' H σ (ρ.set i (.dat (.list ds))) := by
  obtain ⟨a, vs, e1, e2, e3, e4⟩ := s.lstAt h0
  obtain ⟨fp, sf⟩ := id s
  obtain ⟨b, e1', e2', _⟩ := sf.own i _ h0
  have := some_inj2 e1 e1'
  subst this
  have m : a ∈ fp i := by rw [e2']; simp
  have hi : i < ρ.length := (List.getElem?_eq_some_iff.mp h0).1
  have hB : c.B a = none := by
    rcases (sf.ownF i _ a h0 m).2.2 with q | q
    · exact q
    · obtain ⟨j, hj⟩ := hW a q
      have := sf.wp i _ a h0 m j hj
      subst this
      exact absurd hj (hP a)
  have s1 : SimF c F H σ (ρ.set i .no) fp := by
    have o' : ∀ (j : Nat) (w : Ow), (ρ.set i .no)[j]? = some (.own w) → j ≠ i ∧ ρ[j]? = some (.own w) := fun j w q => by
      by_cases z : j = i
      · subst z; rw [List.getElem?_set_self hi] at q; cases q
      · rw [List.getElem?_set_ne (Ne.symm z)] at q; exact ⟨z, q⟩
    have d' : ∀ (j : Nat) (d : D), (ρ.set i .no)[j]? = some (.dat d) → ρ[j]? = some (.dat d) := fun j w q => by
      by_cases z : j = i
      · subst z; rw [List.getElem?_set_self hi] at q; cases q
      · rw [List.getElem?_set_ne (Ne.symm z)] at q; exact q
    exact ⟨sf.f0, sf.fh, sf.keep, sf.dom, sf.av, sf.par, fun j d q => sf.dat j d (d' j d q), fun j w q => sf.own j w (o' j w q).2, fun j w b q => sf.ownF j w b (o' j w q).2, fun j k w w' b q q' => sf.sep j k w w' b (o' j w q).2 (o' k w' q').2, by simpa using sf.len, fun j w b q => sf.wp j w b (o' j w q).2, sf.pb, sf.tb, sf.tw, sf.tl, sf.ti, sf.fl⟩
  have s2 := s1.freeze e2 hB (fun j w q m' => by
    by_cases z : j = i
    · subst z; rw [List.getElem?_set_self hi] at q; cases q
    · rw [List.getElem?_set_ne (Ne.symm z)] at q
      exact z (sf.sep j i w _ a q h0 m' m)) e3 (sf.ti.noLam (fun u e => by rw [e2] at e; cases e; exact notLst))
  have e5 : Same F (upd F a (.lst vs)) := sameNew e3
  refine ⟨_, e5, ?_⟩
  have s3 : Sim c (upd F a (.lst vs)) H σ (ρ.set i .no) := ⟨fp, s2⟩
  have s4 := s3.setDat (i := i) (v := .ref a) (d := .list ds) (.lst (.inl (.inl upd_same)) (dpAllUp e5 e4)) (by simpa using hi) hP
  have e6 : σ.set i (some (.ref a)) = σ := by
    apply List.ext_getElem?
    intro n
    by_cases z : n = i
    · subst z
      rw [List.getElem?_set_self (by rw [sf.len]; exact hi), e1]
    · rw [List.getElem?_set_ne (Ne.symm z)]
  rw [e6, List.set_set] at s4
  exact s4
theorem sv_frz {ts : TS} (h0 : ρ[i]? = some (.own (.lst ds))) (h : Sv g ts (ρ.set i (.dat (.list ds))) P) (hp : i ∉ g.ps := by simp) : Sv g ts ρ P := fun c F H σ E k s p => by
  obtain ⟨F', e, s'⟩ := s.frz h0 (notP k hp) k.wp
  exact h c F' H σ E k s' (p.up e)
end
def WalkD (K : PySem.W.Frag) (F : Hp) (J : It) (n : Nat) (xs : Nat → D) : Prop := ∀ F2 H2, Same F F2 → Same F2 H2 →
  (∀ i, i < n → J.go i H2) ∧ J.stop n H2 ∧ ∀ i x H', i < n → J.yld i H2 x H' → ∃ F', Res K F2 H2 x (xs i) F' H'
def EvI (g : Gm) (wi : TI) (ρ : Rho) (n : Nat) (xs : Nat → D) (ρ' : Rho) : Prop := ∀ (c : Cc) (F H : Hp) (σ : L2.St), c.ok g → Sim c F H σ ρ → ∀ R : It → Hp → Prop, (∀ J F' H', Sim c F' H' σ ρ' → Same F F' → WalkD c.K F' J n xs → R J H') → wi σ H R
def nthD (ds : List D) (i : Nat) : D := ds.getD i .none
theorem nthD_at {ds : List D} {i : Nat} (h : i < ds.length) : ds[i]? = some (nthD ds i) := by
  unfold nthD
  rw [List.getD_eq_getElem?_getD, List.getElem?_eq_getElem h]
  rfl
section
variable {te : TE} {ta : TA} {ρ ρ1 ρ2 : Rho} {ds : List D}
theorem walk_lstD {F : Hp} {a : Addr} {vs : List V} (h : SqL K F a vs) (k : DxAll K F vs ds) : WalkD K F (Itl K a) ds.length (nthD ds) := fun F2 H2 e1 e2 => by
  have q : SqL K H2 a vs := slUp e2 (slUp e1 h)
  have hl := dpAllLen k
  refine ⟨fun i hi => ⟨vs, vs[i]'(by omega), q, by simp [show i < vs.length by omega]⟩, ⟨vs, q, by omega⟩, fun i x H' hi y => ?_⟩
  obtain ⟨rfl, y⟩ := y
  obtain ⟨v, h1, h2⟩ := dpAllGet k (nthD_at hi)
  have := y vs q
  rw [h1] at this
  cases this
  exact ⟨F2, .at (dpUp e1 h2)⟩
theorem walk_tupD {F : Hp} {a : Addr} {vs : List V} (h : SqT K F a vs) (k : DxAll K F vs ds) : WalkD K F (Itt K a) ds.length (nthD ds) := fun F2 H2 e1 e2 => by
  have q : SqT K H2 a vs := stUp e2 (stUp e1 h)
  have hl := dpAllLen k
  refine ⟨fun i hi => ⟨vs, vs[i]'(by omega), q, by simp [show i < vs.length by omega]⟩, ⟨vs, q, by omega⟩, fun i x H' hi y => ?_⟩
  obtain ⟨rfl, y⟩ := y
  obtain ⟨v, h1, h2⟩ := dpAllGet k (nthD_at hi)
  have := y vs q
  rw [h1] at this
  cases this
  exact ⟨F2, .at (dpUp e1 h2)⟩
theorem ei_list (h : EvD g te ρ (.list ds) ρ1) : EvI g (iList g.K te) ρ ds.length (nthD ds) ρ1 := fun c F H σ k s R q => h c F H σ k s _ fun v F1 H1 s1 e1 x => by
  have kk : c.K = g.K := k.1
  cases x with
  | lst hs ha =>
    rw [kk] at hs ha
    exact ⟨_, rfl, ⟨_, slUp s1.fh hs⟩, q _ F1 H1 s1 e1 (by rw [kk]; exact walk_lstD hs ha)⟩
theorem ei_tup (h : EvD g te ρ (.tuple ds) ρ1) : EvI g (iTup g.K te) ρ ds.length (nthD ds) ρ1 := fun c F H σ k s R q => h c F H σ k s _ fun v F1 H1 s1 e1 x => by
  have kk : c.K = g.K := k.1
  cases x with
  | tup hs ha =>
    rw [kk] at hs ha
    exact ⟨_, rfl, ⟨_, stUp s1.fh hs.old⟩, q _ F1 H1 s1 e1 (by rw [kk]; exact walk_tupD hs.old ha)⟩
theorem walk_rngD {F : Hp} {lo : Int} {n : Nat} : WalkD K F (Itr lo n) n (fun i => .int (lo + i)) := fun F2 H2 e1 e2 =>
  ⟨fun i hi => hi, Nat.le_refl _, fun i x H' hi ⟨e, q⟩ => by
    subst e q
    exact ⟨F2, .at (.int _)⟩⟩
theorem ei_rng1 {n : Int} {A : Arg} (h : EvA g ta ρ [A] ρ1) (hA : A = .d (.int n)) (hb : -(2 ^ 62) ≤ n ∧ n < 2 ^ 62) : EvI g (iRng1 ta) ρ n.toNat (fun i => .int (0 + i)) ρ1 := fun c F H σ k s R q => h c F H σ k s _ fun vs F1 H1 s1 e1 x => by
  subst hA
  cases x with
  | cons a t =>
    cases t
    cases a with
    | d a =>
      cases a
      exact ⟨n, rfl, hb.1, hb.2, q _ F1 H1 s1 e1 walk_rngD⟩
theorem ei_rng2 {m n : Int} {A B : Arg} (h : EvA g ta ρ [A, B] ρ1) (hA : A = .d (.int m)) (hB : B = .d (.int n)) (hb : (-(2 ^ 62) ≤ m ∧ m < 2 ^ 62) ∧ -(2 ^ 62) ≤ n ∧ n < 2 ^ 62) : EvI g (iRng2 ta) ρ (n - m).toNat (fun i => .int (m + i)) ρ1 := fun c F H σ k s R q => h c F H σ k s _ fun vs F1 H1 s1 e1 x => by
  subst hA hB
  cases x with
  | cons a t =>
    cases t with
    | cons b t =>
      cases t
      cases a with
      | d a =>
        cases a
        cases b with
        | d b =>
          cases b
          exact ⟨m, n, rfl, ⟨hb.1.1, hb.1.2, hb.2.1, hb.2.2⟩, q _ F1 H1 s1 e1 walk_rngD⟩
end
def Tg (g : Gm) (t : TG) (d : D) (ρ ρ' : Rho) : Prop := ∀ (c : Cc) (F H : Hp) (σ : L2.St) (v : V), (∀ i, i ∉ g.ps → ∀ a, (i, a) ∉ c.P) → c.K = g.K → Sim c F H σ ρ → Dx c.K F v d → ∀ Q : L2.St → Hp → Prop, (∀ σ', Sim c F H σ' ρ' → Q σ' H) → t v σ H Q
theorem tg_name {ρ : Rho} {d : D} {i : Nat} (hi : i < ρ.length := by simp) (hp : i ∉ g.ps := by simp) : Tg g (gName i) d ρ (ρ.set i (.dat d)) := fun c F H σ v hP _ s x Q q => q _ (s.setDat x hi (hP i hp))
def Tgs (g : Gm) (t : TGs) (ds : List D) (ρ ρ' : Rho) : Prop := ∀ (c : Cc) (F H : Hp) (σ : L2.St) (vs : List V), (∀ i, i ∉ g.ps → ∀ a, (i, a) ∉ c.P) → c.K = g.K → Sim c F H σ ρ → DxAll c.K F vs ds → ∀ Q : L2.St → Hp → Prop, (∀ σ', Sim c F H σ' ρ' → Q σ' H) → t vs σ H Q
theorem tgs_nil {ρ : Rho} : Tgs g gNil [] ρ ρ := fun c F H σ vs hP _ s x Q q => by
  cases x
  exact ⟨rfl, q σ s⟩
theorem tgs_cons {t : TG} {u : TGs} {ρ ρ1 ρ2 : Rho} {d : D} {ds : List D} (h : Tg g t d ρ ρ1) (h2 : Tgs g u ds ρ1 ρ2) : Tgs g (gCons t u) (d :: ds) ρ ρ2 := fun c F H σ vs hP kk s x Q q => by
  cases x with
  | cons a b => exact ⟨_, _, rfl, h c F H σ _ hP kk s a _ fun σ' s' => h2 c F H σ' _ hP kk s' b Q q⟩
theorem tg_tup {n : Nat} {t : TGs} {ρ ρ1 : Rho} {ds : List D} (h : Tgs g t ds ρ ρ1) (hl : ds.length = n := by rfl) : Tg g (gTup g.K n t) (.tuple ds) ρ ρ1 := fun c F H σ v hP kk s x Q q => by
  cases x with
  | tup hs ha =>
    rw [kk] at hs
    exact ⟨_, _, rfl, stUp s.fh hs.old, by rw [dpAllLen ha]; exact hl, h c F H σ _ hP kk s ha Q q⟩
/-- a target, a whole assignment -/
theorem sv_asgT {te : TE} {t : TG} {ρ ρ1 ρ2 : Rho} {d : D} {P : Out → Prop} (he : EvD g te ρ d ρ1) (ht : Tg g t d ρ1 ρ2) (h : P (.nx ρ2)) : Sv g (tAsg te t) ρ P := fun c F H σ E k s p =>
  he c F H σ k.ok s _ fun v F1 H1 s1 e1 x => ht c F1 H1 σ v (fun i hi => notP k hi) k.ok.1 s1 x _ fun σ' s' => p.nx _ _ _ _ h s' e1
/-- what a turn's end means: I the turns' invariant -/
def Turn (I : Nat → Rho → Prop) (P : Out → Prop) (i : Nat) : Out → Prop
  | .nx ρ => I (i + 1) ρ
  | .ct ρ => I (i + 1) ρ
  | .bk ρ => P (.nx ρ)
  | .rt ρ r => P (.rt ρ r)
  | .ex C ρ => P (.ex C ρ)
theorem sv_for {wi : TI} {t : TG} {tb : TS} {ρ ρ1 : Rho} {n : Nat} {xs : Nat → D} {P : Out → Prop} (I : Nat → Rho → Prop) (hi : EvI g wi ρ n xs ρ1) (h0 : I 0 ρ1)
    (hs : ∀ i ρ', i < n → I i ρ' → ∃ ρ2, Tg g t (xs i) ρ' ρ2 ∧ Sv g tb ρ2 (Turn I P i)) (hd : ∀ ρ', I n ρ' → P (.nx ρ')) : Sv g (tFor wi t tb) ρ P := fun c F H σ E k s p => by
  refine hi c F H σ k.ok s _ fun J F1 H1 s1 e1 w => ?_
  refine ⟨fun i m σ' H' => m = n - i ∧ i ≤ n ∧ ∃ F' ρ', Same F1 F' ∧ I i ρ' ∧ Sim c F' H' σ' ρ', ⟨n, by omega, by omega, F1, ρ1, Same.refl _, h0, s1⟩, ?_⟩
  rintro i m σ' H' ⟨rfl, hi, F', ρ', e', q, s'⟩
  obtain ⟨w1, w2, w3⟩ := w F' H' e' s'.fh
  by_cases hlt : i < n
  · refine .inr ⟨w1 i hlt, fun σ'' H'' => ∃ F'' ρ'', Same F1 F'' ∧ I (i + 1) ρ'' ∧ Sim c F'' H'' σ'' ρ'', fun σ'' H'' ⟨F'', ρ'', a, b, d⟩ => ⟨n - (i + 1), by omega, rfl, by omega, F'', ρ'', a, b, d⟩, fun x H2 y => ?_⟩
    obtain ⟨F2, rs⟩ := w3 i x H2 hlt y
    obtain ⟨s2, e2, x2⟩ := rs.sim s'
    obtain ⟨ρ2, ht, hb⟩ := hs i ρ' hlt q
    refine ht c F2 H2 σ' x (fun i hi => notP k hi) k.ok.1 s2 x2 _ fun σ3 s3 => ?_
    refine hb c F2 H2 σ3 _ k s3 ⟨fun ρ4 F4 H4 σ4 a b d => ⟨F4, ρ4, (e'.trans e2).trans d, a, b⟩, fun ρ4 F4 H4 σ4 v r a b d z => p.rt _ _ _ _ _ _ a b (((e1.trans e').trans e2).trans d) z, fun ρ4 F4 H4 σ4 a b d => p.nx _ _ _ _ a b (((e1.trans e').trans e2).trans d), fun ρ4 F4 H4 σ4 a b d => ⟨F4, ρ4, (e'.trans e2).trans d, a, b⟩, fun ρ4 F4 H4 σ4 C a b d => p.ex _ _ _ _ _ a b (((e1.trans e').trans e2).trans d)⟩
  · have e : i = n := by omega
    subst e
    exact .inl ⟨w2, p.nx _ _ _ _ (hd ρ' q) s' (e1.trans e')⟩
/-- while -/
theorem sv_while {tc : TT} {tb : TS} {ρ : Rho} {P : Out → Prop} (I : Nat → Rho → Prop) (m0 : Nat) (h0 : I m0 ρ)
    (hs : ∀ m ρ', I m ρ' → ∃ b ρ2, EvT g tc ρ' b ρ2 ∧ (b = true → Sv g tb ρ2 fun o => match o with
      | .nx ρ => ∃ m', m' < m ∧ I m' ρ
      | .ct ρ => ∃ m', m' < m ∧ I m' ρ
      | .bk ρ => P (.nx ρ)
      | .rt ρ r => P (.rt ρ r)
      | .ex C ρ => P (.ex C ρ)) ∧ (b = false → P (.nx ρ2))) : Sv g (tWhile tc tb) ρ P := fun c F H σ E k s p => by
  refine ⟨fun m σ' H' => ∃ F' ρ', Same F F' ∧ I m ρ' ∧ Sim c F' H' σ' ρ', ⟨m0, F, ρ, Same.refl _, h0, s⟩, ?_⟩
  rintro m σ' H' ⟨F', ρ', e', q, s'⟩
  obtain ⟨b, ρ2, h1, h2, h3⟩ := hs m ρ' q
  refine h1 c F' H' σ' k.ok s' _ fun F2 H2 s2 e2 => ?_
  cases b with
  | true =>
    rw [if_pos rfl]
    refine ⟨fun σ'' H'' => ∃ m', m' < m ∧ ∃ F'' ρ'', Same F F'' ∧ I m' ρ'' ∧ Sim c F'' H'' σ'' ρ'', fun σ'' H'' ⟨m', hm, z⟩ => ⟨m', hm, z⟩, ?_⟩
    refine h2 rfl c F2 H2 σ' _ k s2 ⟨fun ρ4 F4 H4 σ4 ⟨m', hm, a⟩ b d => ⟨m', hm, F4, ρ4, (e'.trans e2).trans d, a, b⟩, fun ρ4 F4 H4 σ4 v r a b d z => p.rt _ _ _ _ _ _ a b ((e'.trans e2).trans d) z, fun ρ4 F4 H4 σ4 a b d => p.nx _ _ _ _ a b ((e'.trans e2).trans d), fun ρ4 F4 H4 σ4 ⟨m', hm, a⟩ b d => ⟨m', hm, F4, ρ4, (e'.trans e2).trans d, a, b⟩, fun ρ4 F4 H4 σ4 C a b d => p.ex _ _ _ _ _ a b ((e'.trans e2).trans d)⟩
  | false =>
    rw [if_neg (by decide)]
    exact p.nx _ _ _ _ (h3 rfl) s2 (e'.trans e2)
end DL
namespace DL
open PySem PySem.Spec PyProof.Rows L2
variable [TabC]
variable {K : PySem.W.Frag} {g : Gm}
def Cc.re (c : Cc) (F H : Hp) (W : Addr → Prop) : Cc := { c with F0 := F, B := H, W := W }
def ownW (ρ : Rho) (fp : Nat → List Addr) : Addr → Prop := fun b => ∃ (i : Nat) (w : Ow), ρ[i]? = some (.own w) ∧ b ∈ fp i
section
variable {c : Cc} {F F' H H' : Hp} {σ σ' : L2.St} {ρ ρ' : Rho} {fp fp' : Nat → List Addr}
theorem SimF.re (s : SimF c F H σ ρ fp) : SimF (c.re F H (ownW ρ fp)) F H σ ρ fp :=
  ⟨Same.refl _, s.fh, fun a o q _ _ => q, fun a q => q, fun a _ q => q, s.par, s.dat, s.own, fun i w b q m => ⟨(s.ownF i w b q m).1, (s.ownF i w b q m).2.1, .inr ⟨i, w, q, m⟩⟩, s.sep, s.len, s.wp, fun j b m => s.dom b (s.pb j b m), s.tabs, fun P hm ⟨_, _, q, m⟩ => s.noTab hm q m, s.tl, s.ti, s.fl⟩
/-- back to the base of before: what was not own then stands -/
theorem SimF.un (s : SimF c F H σ ρ fp) (t : SimF (c.re F H (ownW ρ fp)) F' H' σ' ρ' fp') : SimF c F' H' σ' ρ' fp' :=
  ⟨s.f0.trans t.f0, t.fh, fun a o q w l => t.keep a o (s.keep a o q w l) (fun ⟨i, w', e, m⟩ => by
      rcases (s.ownF i w' a e m).2.2 with z | z
      · rw [z] at q; cases q
      · exact w z) l, fun a q => t.dom a (s.dom a q), fun a q z => t.av a (s.dom a q) (s.av a q z), t.par, t.dat, t.own, fun i w b q m => by
      obtain ⟨h1, h2, h3⟩ := t.ownF i w b q m
      refine ⟨h1, h2, ?_⟩
      rcases h3 with z | ⟨j, w', e, m'⟩
      · refine .inl ?_
        cases e : c.B b with
        | none => rfl
        | some o => exact absurd z (s.dom b (by simp [e]))
      · exact (s.ownF j w' b e m').2.2, t.sep, t.len, t.wp, s.pb, s.tb, s.tw, s.tl, t.ti, t.fl⟩
/-- an object that is nobody's changes -/
theorem SimF.other (s : SimF c F H σ ρ fp) {p : Addr} {o : HO} (hF : F p = none) (hB : c.B p = none) (no : ∀ (i : Nat) (w : Ow), ρ[i]? = some (.own w) → p ∉ fp i) (hn : ∀ u, H p = some u → NotT u) : SimF c F (upd H p o) σ ρ fp := by
  have ne : ∀ (i : Nat) (w : Ow) b, ρ[i]? = some (.own w) → b ∈ fp i → b ≠ p := fun i w b q m z => no i w q (z ▸ m)
  refine ⟨s.f0, sameUpd s.fh hF, fun a u q w l => ?_, fun a q => ?_, s.av, s.par, s.dat, fun i w q => ?_, fun i w b q m => ?_, s.sep, s.len, s.wp, s.pb, s.tb, s.tw, s.tl, s.ti.own hn, s.fl⟩
  · have z : a ≠ p := fun z => by rw [z, hB] at q; cases q
    rw [upd_ne z]
    exact s.keep a u q w l
  · by_cases z : a = p
    · rw [z, upd_same]; simp
    · rw [upd_ne z]; exact s.dom a q
  · obtain ⟨a, h1, h2⟩ := s.own i w q
    exact ⟨a, h1, h2.up (Same.refl _) fun b m => upd_ne (ne i w b q m)⟩
  · obtain ⟨h1, h2, h3⟩ := s.ownF i w b q m
    exact ⟨h1, by rw [upd_ne (ne i w b q m)]; exact h2, h3⟩
/-- other slots, other entries, at vs -/
theorem SimF.slots (s : SimF c F H σ ρ fp) (vs : List Nat) (h1 : ∀ i : Nat, i ∉ vs → σ'[i]? = σ[i]?) (h2 : ∀ i : Nat, i ∈ vs → ∀ e : Ent, ρ'[i]? = some e → e = .no) (h3 : ∀ i : Nat, i ∉ vs → ρ'[i]? = ρ[i]?) (hP : ∀ i a, (i, a) ∈ c.P → i ∉ vs) (hl : σ'.length = ρ'.length) :
    SimF c F H σ' ρ' fp := by
  have o' : ∀ (j : Nat) (w : Ow), ρ'[j]? = some (.own w) → j ∉ vs ∧ ρ[j]? = some (.own w) := fun j w q => by
    by_cases m : j ∈ vs
    · cases h2 j m _ q
    · rw [h3 j m] at q; exact ⟨m, q⟩
  refine ⟨s.f0, s.fh, s.keep, s.dom, s.av, fun i a m => by rw [h1 i (hP i a m)]; exact s.par i a m, fun j d q => ?_, fun j w q => ?_, fun j w b q => s.ownF j w b (o' j w q).2, fun j k w w' b q q' => s.sep j k w w' b (o' j w q).2 (o' k w' q').2, hl, fun j w b q => s.wp j w b (o' j w q).2, s.pb, s.tb, s.tw, s.tl, s.ti, s.fl⟩
  · by_cases m : j ∈ vs
    · cases h2 j m _ q
    · rw [h3 j m] at q
      rw [h1 j m]
      exact s.dat j d q
  · obtain ⟨m, q'⟩ := o' j w q
    rw [h1 j m]
    exact s.own j w q'
end
theorem wipe_at {σ : L2.St} : ∀ {vs : List Nat} {i : Nat}, i ∉ vs → (wipe σ vs)[i]? = σ[i]?
  | [], _, _ => rfl
  | v :: vs, i, h => by
    unfold wipe
    rw [List.getElem?_set_ne (fun z : v = i => h (by rw [← z]; exact List.mem_cons_self))]
    exact wipe_at fun m => h (List.mem_cons_of_mem _ m)
theorem wipe_in {σ : L2.St} : ∀ {vs : List Nat} {i : Nat}, i ∈ vs → i < σ.length → (wipe σ vs)[i]? = some none
  | v :: vs, i, h, hi => by
    unfold wipe
    by_cases z : i = v
    · subst z
      rw [List.getElem?_set_self (by rw [wipe_length]; exact hi)]
    · rw [List.getElem?_set_ne (Ne.symm z)]
      exact wipe_in ((List.mem_cons.mp h).resolve_left z) hi
theorem wipe_ext {σ σ' : L2.St} {vs : List Nat} (hl : σ'.length = σ.length) (h : ∀ i : Nat, i ∉ vs → σ'[i]? = σ[i]?) : wipe σ' vs = wipe σ vs := by
  apply List.ext_getElem?
  intro i
  by_cases m : i ∈ vs
  · by_cases hi : i < σ.length
    · rw [wipe_in m hi, wipe_in m (by omega)]
    · rw [List.getElem?_eq_none (by rw [wipe_length]; omega), List.getElem?_eq_none (by rw [wipe_length]; omega)]
  · rw [wipe_at m, wipe_at m, h i m]
def Back (vs : List Nat) (ρ ρ' : Rho) : Prop := ρ'.length = ρ.length ∧ (∀ i : Nat, i ∈ vs → ∀ e : Ent, ρ'[i]? = some e → e = .no) ∧ ∀ i : Nat, i ∉ vs → ρ'[i]? = ρ[i]?
def TgC (g : Gm) (t : TG) (vs : List Nat) (d : D) (ρ ρ' : Rho) : Prop := ∀ (c : Cc) (F H : Hp) (σ : L2.St) (v : V), (∀ i, i ∉ g.ps → ∀ a, (i, a) ∉ c.P) → c.K = g.K → Sim c F H σ ρ → Dx c.K F v d → ∀ Q : L2.St → Hp → Prop,
  (∀ σ', Sim c F H σ' ρ' → σ'.length = σ.length → (∀ i : Nat, i ∉ vs → σ'[i]? = σ[i]?) → Q σ' H) → t v σ H Q
theorem tgc_name {ρ : Rho} {d : D} {j : Nat} {vs : List Nat} (hi : j < ρ.length := by simp) (hp : j ∉ g.ps := by simp) (hm : j ∈ vs := by simp) : TgC g (gName j) vs d ρ (ρ.set j (.dat d)) := fun c F H σ v hP _ s x Q q =>
  q _ (s.setDat x hi (hP j hp)) (by simp) fun i m => by rw [List.getElem?_set_ne (fun z : j = i => m (by rw [← z]; exact hm))]
theorem en_lc {wi : TI} {t : TG} {tt : TT} {te : TE} {vs : List Nat} {ρ ρ1 : Rho} {n : Nat} {xs : Nat → D} (hi : EvI g wi ρ n xs ρ1) (E : Nat → Rho) (bs : Nat → Bool) (ds : Nat → D) (h0 : E 0 = ρ1) (hz : n < sizeLine) (hv : ∀ i, i ∈ vs → i ∉ g.ps)
    (hE : ∀ i, i ≤ n → ∀ j : Nat, j ∈ vs → ∀ e : Ent, (E i)[j]? = some e → e = .no)
    (hs : ∀ i, i < n → ∃ ρ2 ρ3, TgC g t vs (xs i) (E i) ρ2 ∧ EvT g tt ρ2 (bs i) ρ3 ∧ (bs i = true → ∃ ρ4, EvD g te ρ3 (ds i) ρ4 ∧ Back vs ρ4 (E (i + 1))) ∧ (bs i = false → Back vs ρ3 (E (i + 1)))) :
    EvN g (tLc wi t tt te vs) ρ (((List.range n).filter bs).map ds) (E n) := fun c F H σ k s Q q => by
  refine hi c F H σ k s _ fun J F1 H1 s1 e1 w Dl hD => ?_
  subst h0
  have hBD : c.B Dl = none := by
    obtain ⟨fp, sf⟩ := id s1
    cases z : c.B Dl with
    | none => rfl
    | some u => exact absurd hD (sf.dom Dl (by simp [z]))
  have hP : ∀ i a, (i, a) ∈ c.P → i ∉ vs := fun i a m m' => hv i m' (by rw [← k.2]; exact List.mem_map.mpr ⟨(i, a), m, rfl⟩)
  have hP' : ∀ i, i ∉ g.ps → ∀ a, (i, a) ∉ c.P := fun i m a m' => m (by rw [← k.2]; exact List.mem_map.mpr ⟨(i, a), m', rfl⟩)
  have kk : c.K = g.K := k.1
  let out : Nat → List D := fun i => ((List.range i).filter bs).map ds
  have olen : ∀ i, (out i).length ≤ i := fun i => by
    have := List.length_filter_le bs (List.range i)
    simp only [out, List.length_map]
    rw [List.length_range] at this
    exact this
  refine ⟨fun i m H' => m = n - i ∧ i ≤ n ∧ ∃ F' fp acc, Same F1 F' ∧ SimF c F' H' σ (E i) fp ∧ H' Dl = some (.lst acc) ∧ F' Dl = none ∧ (∀ (j : Nat) (w : Ow), (E i)[j]? = some (.own w) → Dl ∉ fp j) ∧ DxAll c.K F' acc (out i), ⟨n, by omega, by omega, ?_⟩, ?_⟩
  · obtain ⟨fp, sf⟩ := s1
    have fD := freeF sf.fh hD
    have no : ∀ (j : Nat) (w : Ow), (E 0)[j]? = some (.own w) → Dl ∉ fp j := fun j w q m => (sf.ownF j w Dl q m).2.1 hD
    exact ⟨F1, fp, [], Same.refl _, sf.other fD hBD no (fun u e => by rw [hD] at e; cases e), upd_same, fD, no, .nil⟩
  · rintro i m H2 ⟨rfl, hin, F2, fp2, acc, e2, s2, hD2, fD2, no2, ha2⟩
    obtain ⟨w1, w2, w3⟩ := w F2 H2 e2 s2.fh
    by_cases hlt : i < n
    · refine .inr ⟨w1 i hlt, fun H' => ∃ F' fp acc, Same F1 F' ∧ SimF c F' H' σ (E (i + 1)) fp ∧ H' Dl = some (.lst acc) ∧ F' Dl = none ∧ (∀ (j : Nat) (w : Ow), (E (i + 1))[j]? = some (.own w) → Dl ∉ fp j) ∧ DxAll c.K F' acc (out (i + 1)), fun H' z => ⟨n - (i + 1), by omega, rfl, by omega, z⟩, fun x H3 y => ?_⟩
      obtain ⟨F3, rs⟩ := w3 i x H3 hlt y
      -- the turn is told over the heap as it stands
      let c2 := c.re F2 H2 (ownW (E i) fp2)
      have k2 : c2.ok g := k
      have sr : Sim c2 F2 H2 σ (E i) := ⟨fp2, s2.re⟩
      obtain ⟨s3, e3, x3⟩ := rs.sim (c := c2) sr
      have sw : Sim c2 F3 H3 (wipe σ vs) (E i) := by
        obtain ⟨fp3, s3⟩ := s3
        exact ⟨fp3, s3.slots vs (fun j m => wipe_at m) (fun j m e q => hE i (by omega) j m e q) (fun _ _ => rfl) hP (by rw [wipe_length]; exact s3.len)⟩
      obtain ⟨ρ2, ρ3, ht, htt, hte, hno⟩ := hs i hlt
      -- what stands behind a turn
      have fin : ∀ (F5 H5 : Hp) (σ2 : L2.St) (ρ5 : Rho), Sim c2 F5 H5 σ2 ρ5 → Same F2 F5 → σ2.length = σ.length → (∀ j : Nat, j ∉ vs → σ2[j]? = σ[j]?) → Back vs ρ5 (E (i + 1)) → ∃ fp5, SimF c F5 H5 σ (E (i + 1)) fp5 ∧ H5 Dl = some (.lst acc) ∧ F5 Dl = none ∧ ∀ (j : Nat) (w : Ow), (E (i + 1))[j]? = some (.own w) → Dl ∉ fp5 j := fun F5 H5 σ2 ρ5 s5 e5 h3 hσ hb => by
        obtain ⟨fp5, s5⟩ := s5
        have nW : ¬ ownW (E i) fp2 Dl := fun ⟨j, w, q, m⟩ => no2 j w q m
        have hl : σ.length = (E (i + 1)).length := by
          have h1 := s5.len
          have h2 := hb.1
          omega
        have t := s2.un s5
        refine ⟨fp5, t.slots vs (fun j m => (hσ j m).symm) hb.2.1 hb.2.2 hP hl, s5.keep Dl _ hD2 nW (s2.ti.noLam fun u e => by rw [hD2] at e; cases e; exact notLst), s5.av Dl (by show H2 Dl ≠ none; rw [hD2]; simp) fD2, fun j w q m => ?_⟩
        have q5 : ρ5[j]? = some (.own w) := by
          by_cases mm : j ∈ vs
          · cases hb.2.1 j mm _ q
          · rw [hb.2.2 j mm] at q; exact q
        rcases (s5.ownF j w Dl q5 m).2.2 with z | z
        · rw [show c2.B Dl = H2 Dl from rfl, hD2] at z; cases z
        · exact nW z
      refine ht c2 F3 H3 (wipe σ vs) x hP' kk sw x3 _ fun σ2 sg hlen hσ2 => ?_
      have hσ : ∀ j : Nat, j ∉ vs → σ2[j]? = σ[j]? := fun j m => (hσ2 j m).trans (wipe_at m)
      refine ⟨wipe_ext (by rw [hlen, wipe_length]) hσ, htt c2 F3 H3 σ2 k2 sg _ fun F4 H4 s4 e4 => ?_⟩
      cases hb : bs i with
      | true =>
        rw [if_pos rfl]
        obtain ⟨ρ4, he, hback⟩ := hte hb
        refine he c2 F4 H4 σ2 k2 s4 _ fun v F5 H5 s5 e5 x5 => ?_
        have e25 : Same F2 F5 := (e3.trans e4).trans e5
        obtain ⟨fp5, t5, hD5, fD5, no5⟩ := fin F5 H5 σ2 ρ4 s5 e25 (hlen.trans (wipe_length _ _)) hσ hback
        have hlen2 : acc.length ≤ i := by rw [dpAllLen ha2]; exact olen i
        refine ⟨acc, hD5, by omega, F5, fp5, acc ++ [v], e2.trans e25, t5.other fD5 hBD no5 (fun u e => by rw [hD5] at e; cases e; exact notLst), upd_same, fD5, no5, ?_⟩
        have : out (i + 1) = out i ++ [ds i] := by
          simp only [out]
          rw [List.range_succ, List.filter_append, List.map_append, List.filter_cons, if_pos hb]
          rfl
        rw [this]
        exact dpAllApp (dpAllUp e25 ha2) (.cons x5 .nil)
      | false =>
        rw [if_neg (by decide)]
        have e24 : Same F2 F4 := e3.trans e4
        obtain ⟨fp5, t5, hD5, fD5, no5⟩ := fin F4 H4 σ2 ρ3 s4 e24 (hlen.trans (wipe_length _ _)) hσ (hno hb)
        have : out (i + 1) = out i := by
          simp only [out]
          rw [List.range_succ, List.filter_append, List.map_append, List.filter_cons, if_neg (by rw [hb]; decide)]
          simp
        exact ⟨F4, fp5, acc, e2.trans e24, t5, hD5, fD5, no5, by rw [this]; exact dpAllUp e24 ha2⟩
    · have e : i = n := by omega
      subst e
      refine .inl ⟨w2, ?_⟩
      -- the list, as if it were just made
      let Hb : Hp := fun a => if a = Dl then none else H2 a
      have eH : H2 = upd Hb Dl (.lst acc) := by
        funext a
        by_cases z : a = Dl
        · subst z; rw [upd_same, hD2]
        · rw [upd_ne z]; simp [Hb, z]
      have sb : SimF c F2 Hb σ (E i) fp2 := by
        have at' : ∀ a, a ≠ Dl → Hb a = H2 a := fun a z => by simp [Hb, z]
        refine ⟨s2.f0, fun a o z => ?_, fun a o z w' l' => ?_, fun a z => ?_, s2.av, s2.par, s2.dat, fun j w' z => ?_, fun j w' b z m => ?_, s2.sep, s2.len, s2.wp, s2.pb, s2.tb, s2.tw, s2.tl, s2.ti.but (fun u e => by rw [hD2] at e; cases e; exact notLst) at', s2.fl⟩
        · have : a ≠ Dl := fun z' => by rw [z', fD2] at z; cases z
          rw [at' a this]
          exact s2.fh a o z
        · have : a ≠ Dl := fun z' => by rw [z', hBD] at z; cases z
          rw [at' a this]
          exact s2.keep a o z w' l'
        · have : a ≠ Dl := fun z' => by rw [z', hBD] at z; exact z rfl
          rw [at' a this]
          exact s2.dom a z
        · obtain ⟨a, h1, h2⟩ := s2.own j w' z
          exact ⟨a, h1, h2.up (Same.refl _) fun b m => at' b fun z' => no2 j w' z (z' ▸ m)⟩
        · obtain ⟨h1, h2, h3⟩ := s2.ownF j w' b z m
          exact ⟨h1, by rw [at' b fun z' => no2 j w' z (z' ▸ m)]; exact h2, h3⟩
      rw [eH]
      exact q Dl acc F2 Hb ⟨fp2, sb⟩ (e1.trans e2) (by simp [Hb]) ha2
end DL
namespace DL
open PySem PySem.Spec PyProof.Rows L2
variable [TabC]
variable {K : PySem.W.Frag} {g : Gm}
def noW : Addr → Prop := fun _ => False
def SameT (F H : Hp) : Prop := Same F H ∧ TabsE H ∧ TabI H ∧ ∀ a, lamW a → F a = none
theorem Sim.ft {c : Cc} {F H : Hp} {σ : L2.St} {ρ : Rho} (s : Sim c F H σ ρ) : SameT F H := ⟨s.fh, s.tabs, let ⟨_, q⟩ := s; ⟨q.ti, q.fl⟩⟩
/-- a def that is given data -/
def spD (R : List D → RetV → Prop) (K : PySem.W.Frag) : Sp := fun vs H Q _ => ∃ F ds r, SameT F H ∧ DxAll K F vs ds ∧ R ds r ∧
  ∀ v F' H', Sim ⟨K, [], noW, F, H⟩ F' H' [] [] → RetOk ⟨K, [], noW, F, H⟩ F' H' v r → Q v H'
/-- .. and ahead of it a list that it may change -/
def spS (R : List D → List D → RetV → List D → Prop) (K : PySem.W.Frag) : Sp := fun vs H Q _ => ∃ F a ws us st ds r st', vs = .ref a :: us ∧ SameT F H ∧ H a = some (.lst ws) ∧ F a = none ∧ DxAll K F ws st ∧ DxAll K F us ds ∧ R st ds r st' ∧
  ∀ v F' H', Sim ⟨K, [(0, a)], (· = a), F, H⟩ F' H' [some (.ref a)] [.own (.lst st')] → RetOk ⟨K, [(0, a)], (· = a), F, H⟩ F' H' v r → Q v H'
section
variable {c : Cc} {F F' H H' : Hp} {σ : L2.St} {ρ ρ' : Rho} {fp : Nat → List Addr}
theorem Sim.cut (s : Sim c F H σ ρ) (hP : c.P = []) : Sim c F H [] [] := by
  obtain ⟨fp, s⟩ := s
  exact ⟨fp, s.f0, s.fh, s.keep, s.dom, s.av, fun i a m => (by rw [hP] at m; cases m), fun i d q => (by simp at q), fun i w q => (by simp at q), fun i w b q => (by simp at q), fun i j w w' b q => (by simp at q), rfl, fun i w b q => (by simp at q), fun j b m => (by rw [hP] at m; cases m), s.tb, s.tw, s.tl, s.ti, s.fl⟩
/-- behind a call: the caller's own things are as they were -/
theorem SimF.after (s : SimF c F H σ ρ fp) (t : Sim ⟨c.K, [], noW, F, H⟩ F' H' [] []) : SimF c F' H' σ ρ fp := by
  obtain ⟨fp', t⟩ := t
  have kp : ∀ (i : Nat) (w : Ow) b, ρ[i]? = some (.own w) → b ∈ fp i → H' b = H b := fun i w b q m => by
    cases z : H b with
    | none => exact absurd z (s.ownF i w b q m).2.1
    | some o => rw [t.keep b o z id (s.noLam q m)]
  refine ⟨s.f0.trans t.f0, t.fh, fun a o q w l => t.keep a o (s.keep a o q w l) id l, fun a q => t.dom a (s.dom a q), fun a q z => t.av a (s.dom a q) (s.av a q z), s.par, fun i d q => ?_, fun i w q => ?_, fun i w b q m => ?_, s.sep, s.len, s.wp, s.pb, s.tb, s.tw, s.tl, t.ti, t.fl⟩
  · obtain ⟨v, h1, h2⟩ := s.dat i d q
    exact ⟨v, h1, dpUp t.f0 h2⟩
  · obtain ⟨a, h1, h2⟩ := s.own i w q
    exact ⟨a, h1, h2.up t.f0 fun b m => kp i w b q m⟩
  · obtain ⟨h1, h2, h3⟩ := s.ownF i w b q m
    exact ⟨t.av b h2 h1, by rw [kp i w b q m]; exact h2, h3⟩
/-- .. but the one at i -/
theorem SimF.afterS (s : SimF c F H σ ρ fp) {i : Nat} {a : Addr} {st st' : List D} (he : ρ[i]? = some (.own (.lst st))) (hσ : σ[i]? = some (some (.ref a))) (t : Sim ⟨c.K, [(0, a)], (· = a), F, H⟩ F' H' [some (.ref a)] [.own (.lst st')]) :
    SimF c F' H' σ (ρ.set i (.own (.lst st'))) fp := by
  obtain ⟨fp', t⟩ := t
  have hi : i < ρ.length := (List.getElem?_eq_some_iff.mp he).1
  obtain ⟨a', e1, e2, vs, e3, e4⟩ := s.own i _ he
  have := some_inj2 e1 hσ
  subst this
  have m0 : a' ∈ fp i := by rw [e2]; simp
  have ne : ∀ (j : Nat) (w : Ow) b, ρ[j]? = some (.own w) → b ∈ fp j → j ≠ i → b ≠ a' := fun j w b q m z e => by
    subst e
    exact z (s.sep j i w _ b q he m m0)
  have kp : ∀ (j : Nat) (w : Ow) b, ρ[j]? = some (.own w) → b ∈ fp j → j ≠ i → H' b = H b := fun j w b q m z => by
    cases y : H b with
    | none => exact absurd y (s.ownF j w b q m).2.1
    | some o => rw [t.keep b o y (ne j w b q m z) (s.noLam q m)]
  obtain ⟨a2, f1, f2, ws, f3, f4⟩ := t.own 0 _ rfl
  have : a2 = a' := by
    have q : some (some (V.ref a')) = some (some (V.ref a2)) := f1
    cases q
    rfl
  subst this
  have own' : ∀ (j : Nat) (w' : Ow), (ρ.set i (.own (.lst st')))[j]? = some (.own w') → (j = i ∧ w' = .lst st') ∨ (j ≠ i ∧ ρ[j]? = some (.own w')) := fun j w' q => by
    by_cases z : j = i
    · subst z
      rw [List.getElem?_set_self hi] at q
      cases q
      exact .inl ⟨rfl, rfl⟩
    · rw [List.getElem?_set_ne (Ne.symm z)] at q
      exact .inr ⟨z, q⟩
  have old : ∀ (j : Nat) (w' : Ow), (ρ.set i (.own (.lst st')))[j]? = some (.own w') → ∃ w0, ρ[j]? = some (.own w0) := fun j w' q => by
    rcases own' j w' q with ⟨rfl, _⟩ | ⟨_, q⟩
    · exact ⟨_, he⟩
    · exact ⟨_, q⟩
  refine ⟨s.f0.trans t.f0, t.fh, fun b o q w l => ?_, fun b q => t.dom b (s.dom b q), fun b q z => t.av b (s.dom b q) (s.av b q z), s.par, fun j d q => ?_, fun j w q => ?_, fun j w b q m => ?_, fun j k w w' b q q' m m' => ?_, by simpa using s.len, fun j w b q m => ?_, s.pb, s.tb, s.tw, s.tl, t.ti, t.fl⟩
  · refine t.keep b o (s.keep b o q w l) (fun z => ?_) l
    have z : b = a2 := z
    subst z
    rcases (s.ownF i _ b he m0).2.2 with y | y
    · rw [y] at q; cases q
    · exact w y
  · by_cases z : j = i
    · subst z; rw [List.getElem?_set_self hi] at q; cases q
    · rw [List.getElem?_set_ne (Ne.symm z)] at q
      obtain ⟨v, h1, h2⟩ := s.dat j d q
      exact ⟨v, h1, dpUp t.f0 h2⟩
  · rcases own' j w q with ⟨rfl, rfl⟩ | ⟨z, q⟩
    · exact ⟨a2, e1, e2, ws, f3, f4⟩
    · obtain ⟨b, h1, h2⟩ := s.own j w q
      exact ⟨b, h1, h2.up t.f0 fun x m => kp j w x q m z⟩
  · obtain ⟨w0, q0⟩ := old j w q
    obtain ⟨h1, h2, h3⟩ := s.ownF j w0 b q0 m
    exact ⟨t.av b h2 h1, t.dom b h2, h3⟩
  · obtain ⟨w0, q0⟩ := old j w q
    obtain ⟨w1, q1⟩ := old k w' q'
    exact s.sep j k w0 w1 b q0 q1 m m'
  · obtain ⟨w0, q0⟩ := old j w q
    exact s.wp j w0 b q0 m
end
def NewAt (c : Cc) (F H : Hp) (σ : L2.St) (ρ : Rho) (a : Addr) (w : Ow) : Prop := ∃ f fp, SimF c F H σ ρ fp ∧ OwRep c.K F H a f w ∧ (∀ b ∈ f, F b = none ∧ H b ≠ none ∧ c.B b = none) ∧ ∀ (j : Nat) (w' : Ow) b, ρ[j]? = some (.own w') → b ∈ f → b ∉ fp j
def EvW (g : Gm) (te : TE) (ρ : Rho) (w : Ow) (ρ' : Rho) : Prop := ∀ (c : Cc) (F H : Hp) (σ : L2.St), c.ok g → Sim c F H σ ρ → ∀ Q : VK, (∀ a F' H', NewAt c F' H' σ ρ' a w → Same F F' → Q (.ref a) H') → te σ H Q
theorem SimF.setOwn {c : Cc} {F H : Hp} {σ : L2.St} {ρ : Rho} {fp : Nat → List Addr} (s : SimF c F H σ ρ fp) {i : Nat} {a : Addr} {f : List Addr} {w : Ow} (hr : OwRep c.K F H a f w) (hf : ∀ b ∈ f, F b = none ∧ H b ≠ none ∧ c.B b = none)
    (no : ∀ (j : Nat) (w' : Ow) b, ρ[j]? = some (.own w') → b ∈ f → b ∉ fp j) (hi : i < ρ.length) (hP : ∀ a, (i, a) ∉ c.P) : Sim c F H (σ.set i (some (.ref a))) (ρ.set i (.own w)) := by
  have hi' : i < σ.length := by rw [s.len]; exact hi
  have own' : ∀ (j : Nat) (w' : Ow), (ρ.set i (.own w))[j]? = some (.own w') → (j = i ∧ w' = w) ∨ (j ≠ i ∧ ρ[j]? = some (.own w')) := fun j w' q => by
    by_cases z : j = i
    · subst z
      rw [List.getElem?_set_self hi] at q
      cases q
      exact .inl ⟨rfl, rfl⟩
    · rw [List.getElem?_set_ne (Ne.symm z)] at q
      exact .inr ⟨z, q⟩
  refine ⟨fun j => if j = i then f else fp j, s.f0, s.fh, s.keep, s.dom, s.av, fun j b m => ?_, fun j d q => ?_, fun j w' q => ?_, fun j w' b q m => ?_, fun j k w' w'' b q q' m m' => ?_, by simpa using s.len, fun j w' b q m k hk => ?_, s.pb, s.tb, s.tw, s.tl, s.ti, s.fl⟩
  · have z : j ≠ i := fun z => hP b (z ▸ m)
    rw [List.getElem?_set_ne (Ne.symm z)]
    exact s.par j b m
  · by_cases z : j = i
    · subst z
      rw [List.getElem?_set_self hi] at q
      cases q
    · rw [List.getElem?_set_ne (Ne.symm z)] at q ⊢
      exact s.dat j d q
  · rcases own' j w' q with ⟨rfl, rfl⟩ | ⟨z, q'⟩
    · exact ⟨a, List.getElem?_set_self hi', by simpa using hr⟩
    · rw [List.getElem?_set_ne (Ne.symm z)]
      simpa [z] using s.own j w' q'
  · rcases own' j w' q with ⟨rfl, rfl⟩ | ⟨z, q'⟩
    · have m' : b ∈ f := by simpa using m
      exact ⟨(hf b m').1, (hf b m').2.1, .inl (hf b m').2.2⟩
    · exact s.ownF j w' b q' (by simpa [z] using m)
  · rcases own' j w' q with ⟨rfl, rfl⟩ | ⟨z, q1⟩
    · rcases own' k w'' q' with ⟨rfl, rfl⟩ | ⟨z', q2⟩
      · rfl
      · exact absurd (by simpa [z'] using m') (no k w'' b q2 (by simpa using m))
    · rcases own' k w'' q' with ⟨rfl, rfl⟩ | ⟨z', q2⟩
      · exact absurd (by simpa [z] using m) (no j w' b q1 (by simpa using m'))
      · exact s.sep j k w' w'' b q1 q2 (by simpa [z] using m) (by simpa [z'] using m')
  · rcases own' j w' q with ⟨rfl, rfl⟩ | ⟨z, q1⟩
    · exact absurd (hf b (by simpa using m)).2.2 (s.pb k b hk)
    · exact s.wp j w' b q1 (by simpa [z] using m) k hk
theorem sv_setW {te : TE} {ρ ρ1 : Rho} {w : Ow} {i : Nat} {P : Out → Prop} (he : EvW g te ρ w ρ1) (h : P (.nx (ρ1.set i (.own w)))) (hi : i < ρ1.length := by simp) (hp : i ∉ g.ps := by simp) : Sv g (tAsg te (gName i)) ρ P := fun c F H σ E k s p =>
  he c F H σ k.ok s _ fun a F' H' ⟨f, fp, s', hr, hf, no⟩ e => p.nx _ _ _ _ h (s'.setOwn hr hf no hi (notP k hp)) e
/-- a new list becomes data -/
theorem ed_ofW {te : TE} {ρ ρ1 : Rho} {ds : List D} (h : EvW g te ρ (.lst ds) ρ1) : EvD g te ρ (.list ds) ρ1 := fun c F H σ k s Q q => h c F H σ k s _ fun a F' H' ⟨f, fp, s', hr, hf, no⟩ e => by
  obtain ⟨rfl, vs, h1, h2⟩ := hr
  obtain ⟨k1, k2, k3⟩ := hf a (by simp)
  have e2 : Same F' (upd F' a (.lst vs)) := sameNew k1
  exact q _ _ H' ⟨fp, s'.freeze h1 k3 (fun i w z m => no i w a z (by simp) m) k1 (s'.ti.noLam (fun u e => by rw [h1] at e; cases e; exact notLst))⟩ (e.trans e2) (.lst (.inl (.inl upd_same)) (dpAllUp e2 h2))
theorem sv_retW {te : TE} {ρ ρ1 : Rho} {w : Ow} {P : Out → Prop} (he : EvW g te ρ w ρ1) (h : P (.rt ρ1 (.new w))) : Sv g (tRet te) ρ P := fun c F H σ E k s p =>
  he c F H σ k.ok s _ fun a F' H' ⟨f, fp, s', hr, hf, no⟩ e => p.rt _ _ _ _ _ _ h ⟨fp, s'⟩ e ⟨a, f, rfl, hr, hf⟩
section
variable {t : TA} {ρ ρ1 : Rho} {As : List Arg} {ds : List D} {d : D} {E : XK} {te : TE}
/-- all operands as data: own lists are lent -/
theorem lend {c : Cc} {F H : Hp} {σ : L2.St} {vs : List V} (s : Sim c F H σ ρ) (h : ArgsAt c.K F σ vs As) (hd : datas As = some ds) : DxAll c.K F vs ds := h.datas hd
theorem ed_call {R : List D → RetV → Prop} (ha : EvA g t ρ As ρ1) (hR : R ds (.dat d)) (hd : datas As = some ds := by rfl) : EvD g (tCall (spD R g.K) [] E t) ρ d ρ1 := fun c F H σ k s Q q =>
  ha c F H σ k s _ fun vs F1 H1 s1 e1 h1 => by
    have kk : c.K = g.K := k.1
    obtain ⟨fp, sf⟩ := id s1
    rw [List.append_nil, ← kk]
    refine ⟨F1, ds, .dat d, s1.ft, h1.datas hd, hR, fun v F' H' t r => ?_⟩
    have t' := sf.after t
    exact q v F' H' ⟨fp, t'⟩ (e1.trans t.f0) r
theorem ew_call {R : List D → RetV → Prop} {w : Ow} (ha : EvA g t ρ As ρ1) (hR : R ds (.new w)) (hd : datas As = some ds := by rfl) : EvW g (tCall (spD R g.K) [] E t) ρ w ρ1 := fun c F H σ k s Q q =>
  ha c F H σ k s _ fun vs F1 H1 s1 e1 h1 => by
    have kk : c.K = g.K := k.1
    obtain ⟨fp, sf⟩ := id s1
    rw [List.append_nil, ← kk]
    refine ⟨F1, ds, .new w, s1.ft, h1.datas hd, hR, fun v F' H' t r => ?_⟩
    have t' := sf.after t
    obtain ⟨a, f, rfl, hr, hf⟩ := r
    refine q a F' H' ⟨f, fp, t', hr, fun b m => ⟨(hf b m).1, (hf b m).2.1, ?_⟩, fun j w' b z m m' => ?_⟩ (e1.trans t.f0)
    · cases z : c.B b with
      | none => rfl
      | some o => exact absurd (hf b m).2.2 (sf.dom b (by simp [z]))
    · exact (sf.ownF j w' b z m').2.1 (hf b m).2.2
/-- f(own, data ..) -/
theorem ed_callS {R : List D → List D → RetV → List D → Prop} {i : Nat} {st st' : List D} (ha : EvA g t ρ (.o i :: As) ρ1) (he : ρ1[i]? = some (.own (.lst st))) (hR : R st ds (.dat d) st') (hd : datas As = some ds := by rfl) :
    EvD g (tCall (spS R g.K) [] E t) ρ d (ρ1.set i (.own (.lst st'))) := fun c F H σ k s Q q =>
  ha c F H σ k s _ fun vs F1 H1 s1 e1 h1 => by
    have kk : c.K = g.K := k.1
    obtain ⟨fp, sf⟩ := id s1
    obtain ⟨a, ws, f1, f2, f3, f4⟩ := s1.lstAt he
    cases h1 with
    | cons x t1 =>
      cases x with
      | o x =>
        rename_i v vs
        have ev : v = .ref a := by
          rw [f1] at x
          cases x
          rfl
        subst ev
        rw [List.append_nil, ← kk]
        refine ⟨F1, a, ws, vs, st, ds, .dat d, st', rfl, s1.ft, f2, f3, f4, t1.datas hd, hR, fun v F' H' t r => ?_⟩
        exact q v F' H' ⟨fp, sf.afterS he f1 t⟩ (e1.trans t.f0) r
theorem ew_callS {R : List D → List D → RetV → List D → Prop} {i : Nat} {st st' : List D} {w : Ow} (ha : EvA g t ρ (.o i :: As) ρ1) (he : ρ1[i]? = some (.own (.lst st))) (hR : R st ds (.new w) st') (hd : datas As = some ds := by rfl) :
    EvW g (tCall (spS R g.K) [] E t) ρ w (ρ1.set i (.own (.lst st'))) := fun c F H σ k s Q q =>
  ha c F H σ k s _ fun vs F1 H1 s1 e1 h1 => by
    have kk : c.K = g.K := k.1
    obtain ⟨fp, sf⟩ := id s1
    obtain ⟨a, ws, f1, f2, f3, f4⟩ := s1.lstAt he
    cases h1 with
    | cons x t1 =>
      cases x with
      | o x =>
        rename_i v vs
        have ev : v = .ref a := by
          rw [f1] at x
          cases x
          rfl
        subst ev
        rw [List.append_nil, ← kk]
        refine ⟨F1, a, ws, vs, st, ds, .new w, st', rfl, s1.ft, f2, f3, f4, t1.datas hd, hR, fun v F' H' t r => ?_⟩
        obtain ⟨a', f, rfl, hr, hf⟩ := r
        have t' := sf.afterS he f1 t
        have hi : i < ρ1.length := (List.getElem?_eq_some_iff.mp he).1
        refine q a' F' H' ⟨f, fp, t', hr, fun b m => ⟨(hf b m).1, (hf b m).2.1, ?_⟩, fun j w' b z m m' => ?_⟩ (e1.trans t.f0)
        · cases z : c.B b with
          | none => rfl
          | some o => exact absurd (hf b m).2.2 (sf.dom b (by simp [z]))
        · have old : ∃ w0, ρ1[j]? = some (.own w0) := by
            by_cases y : j = i
            · exact ⟨_, y ▸ he⟩
            · rw [List.getElem?_set_ne (Ne.symm y)] at z
              exact ⟨_, z⟩
          obtain ⟨w0, z0⟩ := old
          exact (sf.ownF j w0 b z0 m').2.1 (hf b m).2.2
end
theorem start_get {N : List Str} {vs : List V} {i : Nat} {v : V} (h : vs[i]? = some v) : (start N vs)[i]? = some (some v) := by
  unfold L2.start
  have hi : i < vs.length := (List.getElem?_eq_some_iff.mp h).1
  rw [List.getElem?_append_left (by simpa using hi), List.getElem?_map, h]
  rfl
/-- the environment at a def's entry -/
def rho0 (N : List Str) (es : List Ent) : Rho := es ++ List.replicate (N.length - es.length) .no
theorem rho0_get {N : List Str} {es : List Ent} {i : Nat} {e : Ent} (h : (rho0 N es)[i]? = some e) : es[i]? = some e ∨ e = .no := by
  unfold rho0 at h
  by_cases hi : i < es.length
  · rw [List.getElem?_append_left hi] at h
    exact .inl h
  · rw [List.getElem?_append_right (by omega), List.getElem?_replicate] at h
    split at h
    · exact .inr (Option.some.inj h).symm
    · cases h
theorem rho0_len {N : List Str} {es : List Ent} {vs : List V} (h : vs.length = es.length) : (start N vs).length = (rho0 N es).length := by
  unfold L2.start rho0
  simp [h]
theorem sim_start {N : List Str} {vs : List V} {ds : List D} {F H : Hp} (e : SameT F H) (h : DxAll K F vs ds) : Sim ⟨K, [], noW, F, H⟩ F H (start N vs) (rho0 N (ds.map .dat)) := by
  have nown : ∀ (i : Nat) (w : Ow), (rho0 N (ds.map .dat))[i]? ≠ some (.own w) := fun i w q => by
    rcases rho0_get q with q | q
    · rw [List.getElem?_map] at q
      cases z : ds[i]? with
      | none => rw [z] at q; cases q
      | some d => rw [z] at q; cases q
    · cases q
  refine ⟨fun _ => [], Same.refl _, e.1, fun a o q _ _ => q, fun a q => q, fun a _ q => q, fun i a m => (nomatch m), fun i d q => ?_, fun i w q => (nown i w q).elim, fun i w b q => (nown i w q).elim, fun i j w w' b q => (nown i w q).elim, rho0_len (by rw [List.length_map]; exact dpAllLen h), fun i w b q => (nown i w q).elim, fun j b m => (nomatch m), e.2.1, fun _ _ z => z, fun p m => e.2.2.1.noTabX (e.2.1 p m), e.2.2.1, e.2.2.2⟩
  rcases rho0_get q with q | q
  · rw [List.getElem?_map] at q
    cases z : ds[i]? with
    | none => rw [z] at q; cases q
    | some d' =>
      rw [z] at q
      cases q
      obtain ⟨v, h1, h2⟩ := dpAllGet h z
      exact ⟨v, start_get h1, h2⟩
  · cases q
theorem sim_startS {N : List Str} {us ws : List V} {a : Addr} {ds st : List D} {F H : Hp} (e : SameT F H) (ha : H a = some (.lst ws)) (hF : F a = none) (hs : DxAll K F ws st) (h : DxAll K F us ds) :
    Sim ⟨K, [(0, a)], (· = a), F, H⟩ F H (start N (.ref a :: us)) (rho0 N (.own (.lst st) :: ds.map .dat)) := by
  have nown : ∀ (i : Nat) (w : Ow), (rho0 N (.own (.lst st) :: ds.map .dat))[i]? = some (.own w) → i = 0 ∧ w = .lst st := fun i w q => by
    rcases rho0_get q with q | q
    · cases i with
      | zero => simp at q; exact ⟨rfl, q.symm⟩
      | succ i =>
        rw [List.getElem?_cons_succ, List.getElem?_map] at q
        cases z : ds[i]? with
        | none => rw [z] at q; cases q
        | some d => rw [z] at q; cases q
    · cases q
  refine ⟨fun _ => [a], Same.refl _, e.1, fun a o q _ _ => q, fun a q => q, fun a _ q => q, fun i b m => ?_, fun i d q => ?_, fun i w q => ?_, fun i w b q m => ?_, fun i j w w' b q q' _ _ => ?_, rho0_len (by simp [dpAllLen h]), fun i w b q m j hj => ?_, fun j b m => ?_, e.2.1, (fun P m z => by
    have z : P.1 = a := z
    have := e.2.1 P m
    rw [z, ha] at this
    cases this), fun p m => e.2.2.1.noTabX (e.2.1 p m), e.2.2.1, e.2.2.2⟩
  · have z : (i, b) = (0, a) := by simpa using m
    cases z
    exact start_get rfl
  · rcases rho0_get q with q | q
    · cases i with
      | zero => simp at q
      | succ i =>
        rw [List.getElem?_cons_succ, List.getElem?_map] at q
        cases z : ds[i]? with
        | none => rw [z] at q; cases q
        | some d' =>
          rw [z] at q
          cases q
          obtain ⟨v, h1, h2⟩ := dpAllGet h z
          exact ⟨v, start_get (by simpa using h1), h2⟩
    · cases q
  · obtain ⟨rfl, rfl⟩ := nown i w q
    exact ⟨a, start_get rfl, rfl, ws, ha, hs⟩
  · have z : b = a := by simpa using m
    subst z
    exact ⟨hF, by rw [ha]; simp, .inr rfl⟩
  · exact (nown i w q).1.trans (nown j w' q').1.symm
  · have z : b = a := by simpa using m
    subst z
    have z : (j, b) = (0, b) := by simpa using hj
    cases z
    exact (nown i w q).1.symm
  · have z : (j, b) = (0, a) := by simpa using m
    cases z
    show H a ≠ none
    rw [ha]
    simp
/-- what a body has to come to -/
def RetP (r : RetV) : Out → Prop
  | .nx _ => r = .dat .none
  | .rt _ r' => r' = r
  | _ => False
def RetS (r : RetV) (st' : List D) : Out → Prop
  | .nx ρ => r = .dat .none ∧ ρ[0]? = some (.own (.lst st'))
  | .rt ρ r' => r' = r ∧ ρ[0]? = some (.own (.lst st'))
  | _ => False
theorem body_D {t : TS} {N : List Str} {vs : List V} {ds : List D} {F H : Hp} {r : RetV} {Q : VK} (e : SameT F H) (h : DxAll K F vs ds) (hb : Sv (gm K []) t (rho0 N (ds.map .dat)) (RetP r))
    (q : ∀ v F' H', Sim ⟨K, [], noW, F, H⟩ F' H' [] [] → RetOk ⟨K, [], noW, F, H⟩ F' H' v r → Q v H') : t { nx := fun _ H' => Q .non H', rt := Q } (start N vs) H :=
  hb ⟨K, [], noW, F, H⟩ F H _ _ ⟨⟨rfl, rfl⟩, fun a z => z.elim⟩ (sim_start e h)
    ⟨fun ρ F' H' σ z s e => q _ F' H' (s.cut rfl) (by rw [show r = .dat .none from z]; exact Dx.non), fun ρ F' H' σ v r' z s e x => q v F' H' (s.cut rfl) (by rw [← show r' = r from z]; exact x), fun _ _ _ _ z => z.elim, fun _ _ _ _ z => z.elim, fun _ _ _ _ _ z => z.elim⟩
theorem Sim.cutS {c : Cc} {F H : Hp} {σ : L2.St} {ρ : Rho} {a : Addr} {st : List D} (s : Sim c F H σ ρ) (hP : c.P = [(0, a)]) (h0 : ρ[0]? = some (.own (.lst st))) : Sim c F H [some (.ref a)] [.own (.lst st)] := by
  obtain ⟨fp, s⟩ := s
  have e0 : σ[0]? = some (some (.ref a)) := s.par 0 a (by rw [hP]; simp)
  have z1 : ∀ (i : Nat) (w : Ow), ([Ent.own (.lst st)] : Rho)[i]? = some (.own w) → i = 0 ∧ w = .lst st := fun i w q => by
    cases i with
    | zero => simp at q; exact ⟨rfl, q.symm⟩
    | succ i => simp at q
  refine ⟨fp, s.f0, s.fh, s.keep, s.dom, s.av, fun i b m => ?_, fun i d q => ?_, fun i w q => ?_, fun i w b q m => ?_, fun i j w w' b q q' _ _ => ?_, rfl, fun i w b q m => ?_, s.pb, s.tb, s.tw, s.tl, s.ti, s.fl⟩
  · rw [hP] at m
    have z : (i, b) = (0, a) := by simpa using m
    cases z
    rfl
  · cases i with
    | zero => simp at q
    | succ i => simp at q
  · obtain ⟨rfl, rfl⟩ := z1 i w q
    obtain ⟨b, h1, h2⟩ := s.own 0 _ h0
    have := some_inj2 e0 h1
    subst this
    exact ⟨a, rfl, h2⟩
  · obtain ⟨rfl, rfl⟩ := z1 i w q
    exact s.ownF 0 _ b h0 m
  · exact (z1 i w q).1.trans (z1 j w' q').1.symm
  · obtain ⟨rfl, rfl⟩ := z1 i w q
    exact s.wp 0 _ b h0 m
theorem body_S {t : TS} {N : List Str} {us ws : List V} {a : Addr} {ds st st' : List D} {F H : Hp} {r : RetV} {Q : VK} (e : SameT F H) (ha : H a = some (.lst ws)) (hF : F a = none) (hs : DxAll K F ws st) (h : DxAll K F us ds)
    (hb : Sv (gm K [0]) t (rho0 N (.own (.lst st) :: ds.map .dat)) (RetS r st'))
    (q : ∀ v F' H', Sim ⟨K, [(0, a)], (· = a), F, H⟩ F' H' [some (.ref a)] [.own (.lst st')] → RetOk ⟨K, [(0, a)], (· = a), F, H⟩ F' H' v r → Q v H') : t { nx := fun _ H' => Q .non H', rt := Q } (start N (.ref a :: us)) H :=
  hb ⟨K, [(0, a)], (· = a), F, H⟩ F H _ _ ⟨⟨rfl, rfl⟩, fun b z => ⟨0, by rw [show b = a from z]; simp⟩⟩ (sim_startS e ha hF hs h)
    ⟨fun ρ F' H' σ z s e => q _ F' H' (s.cutS rfl z.2) (by rw [z.1]; exact Dx.non), fun ρ F' H' σ v r' z s e x => q v F' H' (s.cutS rfl z.2) (by rw [← z.1]; exact x), fun _ _ _ _ z => z.elim, fun _ _ _ _ z => z.elim, fun _ _ _ _ _ z => z.elim⟩
section
variable {P : Program} {w : World} {mg : Str → Option Value} {base : Heap} {x qual : Str} {st : Stmt} {f : Addr} {fd : FuncData} {N ps : List Str} {k : Nat}
/-- THE RULE for a def of data -/
theorem def_D {R : List D → RetV → Prop} (Fn : Fun K x qual st f fd) (S : FnScope N ps (defScope st)) (len : ∀ ds r, R ds r → ds.length = ps.length)
    {t : TS}
    (ht : ∀ (cdv : Value) (A : Around) (outer : List PySem.Env) (s : Shared) (H : Hp) (E : XK), Room k (A.deeper (envOfC qual (defScope st) s.heap.objs.size f cdv)) → PSs (cxOf CX0 P w K mg base N qual (defScope st) f cdv A outer s H E).nox (defBody st) t)
    (hv : ∀ ds r, R ds r → Sv (gm K []) t (rho0 N (ds.map .dat)) (RetP r)) : FnOk P w K mg base CX0 (k + 1) f fd ps (spD R K) := by
  refine Fn.ok S (fun vs H Q E h => ?_) (fun cdv A outer s H vs Q E hr h => ?_)
  · obtain ⟨F, ds, r, _, h1, h2, _⟩ := h
    rw [dpAllLen h1]
    exact len ds r h2
  · obtain ⟨F, ds, r, e, h1, h2, q⟩ := h
    exact ⟨t, ht cdv A outer s H E hr, body_D e h1 (hv ds r h2) q⟩
/-- .. with a list that it may change -/
theorem def_S {R : List D → List D → RetV → List D → Prop} (Fn : Fun K x qual st f fd) (S : FnScope N ps (defScope st)) (len : ∀ st0 ds r st1, R st0 ds r st1 → ds.length + 1 = ps.length) {t : TS}
    (ht : ∀ (cdv : Value) (A : Around) (outer : List PySem.Env) (s : Shared) (H : Hp) (E : XK), Room k (A.deeper (envOfC qual (defScope st) s.heap.objs.size f cdv)) → PSs (cxOf CX0 P w K mg base N qual (defScope st) f cdv A outer s H E).nox (defBody st) t)
    (hv : ∀ st0 ds r st1, R st0 ds r st1 → Sv (gm K [0]) t (rho0 N (.own (.lst st0) :: ds.map .dat)) (RetS r st1)) : FnOk P w K mg base CX0 (k + 1) f fd ps (spS R K) := by
  refine Fn.ok S (fun vs H Q E h => ?_) (fun cdv A outer s H vs Q E hr h => ?_)
  · obtain ⟨F, a, ws, us, s0, ds, r, s1, rfl, _, _, _, _, h1, h2, _⟩ := h
    rw [List.length_cons, dpAllLen h1]
    exact len _ ds r _ h2
  · obtain ⟨F, a, ws, us, s0, ds, r, s1, rfl, e, ha, hF, hs, h1, h2, q⟩ := h
    exact ⟨t, ht cdv A outer s H E hr, body_S e ha hF hs h1 (hv _ ds r _ h2) q⟩
end
end DL
namespace DL
open PySem PySem.Spec PyProof.Rows L2
variable [TabC]
variable {K : PySem.W.Frag} {g : Gm} {X : Cx}
def rAddS : R2 := fun x y H Q => ∃ i j, x = .str i ∧ y = .str j ∧ i.length + j.length ≤ sizeLine ∧ Q (.str (i ++ j)) H
def uAdd (K : PySem.W.Frag) : R2 := fun x y H Q => rI0 (fun i j => .int (i + j)) x y H Q ∨ (rAddS x y H Q ∨ rCatX K x y H Q)
theorem op_uAdd : OpR X (binaryOp .Add) (uAdd X.K) := OpR.or op_add (OpR.or op_add_str op_catX)
theorem ra_int {i j : Int} : R2D K (uAdd K) (.int i) (.int j) (.int (i + j)) := r2_or1 r2_int
theorem ra_str {i j : Str} (hz : i.length + j.length ≤ sizeLine) : R2D K (uAdd K) (.str i) (.str j) (.str (i ++ j)) := r2_or2 (r2_or1 fun F H x y Q f a b q => ⟨i, j, a.str, b.str, hz, q _ F H (.at (.str _))⟩)
theorem ra_tup {xs ys : List D} (hz : xs.length + ys.length ≤ sizeLine) : R2D K (uAdd K) (.tuple xs) (.tuple ys) (.tuple (xs ++ ys)) := r2_or2 (r2_or2 (r2_catT hz))
theorem PI.or {tg iter : Expr} {wi wi' : TI} (h : PI X tg iter wi) (h' : PI X tg iter wi') : PI X tg iter (fun σ H R => wi σ H R ∨ wi' σ H R) := by
  refine ⟨fun pins s σ H R I hw => ?_⟩
  rcases hw with hw | hw
  · exact h.run pins s σ H R I hw
  · exact h'.run pins s σ H R I hw
def uIter (K : PySem.W.Frag) (te : TE) : TI := fun σ H R => iList K te σ H R ∨ iTup K te σ H R
theorem pi_u {tg l : Expr} {tl : TE} (hl : PE X l tl) : PI X tg l (uIter X.K tl) := PI.or (pi_list hl) (pi_tup hl)
section
variable {te : TE} {ρ ρ1 : Rho} {ds : List D}
theorem ei_uL (h : EvD g te ρ (.list ds) ρ1) : EvI g (uIter g.K te) ρ ds.length (nthD ds) ρ1 := fun c F H σ k s R q => .inl (ei_list h c F H σ k s R q)
theorem ei_uT (h : EvD g te ρ (.tuple ds) ρ1) : EvI g (uIter g.K te) ρ ds.length (nthD ds) ρ1 := fun c F H σ k s R q => .inr (ei_tup h c F H σ k s R q)
end
theorem units65 {A : Around} {k : Nat} (hr : Room k A) : A.units + 65 < cLine := by have := hr.un; omega
end DL
namespace DL
open PySem PySem.Spec PyProof.Rows L2
variable [TabC]
variable {K : PySem.W.Frag} {g : Gm}
theorem atI_in {ds : List D} {i : Int} (h0 : 0 ≤ i) (h1 : i < ds.length) : atI ds i = some (nthD ds i.toNat) := by
  have e : i = (i.toNat : Int) := by omega
  conv => lhs; rw [e]
  exact atI_nat (nthD_at (by omega))
theorem atI_ints {ns : List Int} {i : Int} (h0 : 0 ≤ i) (h1 : i < ns.length) : atI (ns.map PyData.int) i = some (.int (ns.getD i.toNat 0)) := by
  have e : i = (i.toNat : Int) := by omega
  have hi : i.toNat < ns.length := by omega
  conv => lhs; rw [e]
  refine atI_nat ?_
  rw [List.getElem?_map, List.getElem?_eq_getElem hi, List.getD_eq_getElem?_getD, List.getElem?_eq_getElem hi]
  rfl
structure Good (N : List Int) : Prop where
  pos : 0 < N.length
  len : N.length ≤ 4000
  lo : ∀ x ∈ N, 0 ≤ x
  hi : ∀ x ∈ N, x < 1009
def stAt (N : List Int) (k : Int) : List D := [.list (N.map .int), .int k]
def nxt (N : List Int) (k many : Int) : Int := (N.getD ((k + 1) % N.length).toNat 0 + ((k + 1) / N.length) * 389 + (k + 1) * ((k + 1) / N.length) * 17) % many
def KMax : Int := 1000000000
theorem nxt_lo {N : List Int} {k many : Int} (h : 0 < many) : 0 ≤ nxt N k many := Int.emod_nonneg _ (by omega)
theorem nxt_hi {N : List Int} {k many : Int} (h : 0 < many) : nxt N k many < many := Int.emod_lt_of_pos _ h
theorem good_div {N : List Int} (G : Good N) {k : Int} (h0 : 0 ≤ k) (h1 : k ≤ KMax) : 0 ≤ k / (N.length : Int) ∧ k / (N.length : Int) ≤ KMax := by
  have hp := G.pos
  refine ⟨Int.ediv_nonneg h0 (by omega), Int.le_trans (Int.ediv_le_self _ h0) h1⟩
end DL
namespace DL
open PySem PySem.Spec PyProof.Rows L2
variable [TabC]
variable {K : PySem.W.Frag} {g : Gm}
theorem Wk.trans : ∀ {a b c : Rho}, Wk a b → Wk b c → Wk a c
  | _, _, _, .nil, .nil => .nil
  | _, _, _, .eq h, .eq h' => .eq (h.trans h')
  | _, _, _, .eq h, .no h' => .no (h.trans h')
  | _, _, _, .no h, .eq h' => .no (h.trans h')
  | _, _, _, .no h, .no h' => .no (h.trans h')
def dig : Nat → Int → List Int
  | 0, _ => []
  | n + 1, r => r % 1009 :: if r / 1009 = 0 then [] else dig n (r / 1009)
def mxm (m0 : Int) : Nat → Int
  | 0 => m0
  | i + 1 => (mxm m0 i * 48271 + 7 * (0 + (i : Int)) + 11) % 2147483647
def mxo (m0 : Int) (i : Nat) : Int := (mxm m0 (i + 1) * 69621 + (0 + (i : Int))) % 2147483629 % 1009
def cellAbs (c : Int) : Int := if c < 0 then -c else c
def chunk (c : Int) : List Int := if 10 ^ 18 ≤ cellAbs c then dig 60 (cellAbs c) else (List.range 10).map (mxo (cellAbs c % 2147483647))
def flat (ns : List Int) : List Int := (ns.map chunk).flatten
def streamOf (ns : List Int) : List Int := if flat ns = [] then [0] else flat ns
theorem dig_bnd : ∀ (n : Nat) (r : Int), ∀ x ∈ dig n r, 0 ≤ x ∧ x < 1009
  | 0, _, x, h => by cases h
  | n + 1, r, x, h => by
    unfold dig at h
    rcases List.mem_cons.mp h with h | h
    · subst h
      omega
    · split at h
      · cases h
      · exact dig_bnd n _ x h
theorem dig_len : ∀ (n : Nat) (r : Int), (dig n r).length ≤ n
  | 0, _ => by simp [dig]
  | n + 1, r => by
    unfold dig
    split
    · simp
    · have := dig_len n (r / 1009)
      simp only [List.length_cons]
      omega
theorem chunk_bnd (c : Int) : ∀ x ∈ chunk c, 0 ≤ x ∧ x < 1009 := fun x h => by
  unfold chunk at h
  split at h
  · exact dig_bnd _ _ x h
  · obtain ⟨i, _, rfl⟩ := List.mem_map.mp h
    unfold mxo
    omega
theorem chunk_len (c : Int) : (chunk c).length ≤ 60 := by
  unfold chunk
  split
  · exact dig_len _ _
  · simp
theorem flat_len : ∀ ns : List Int, (flat ns).length ≤ 60 * ns.length
  | [] => by simp [flat]
  | n :: ns => by
    have h1 := flat_len ns
    have h2 := chunk_len n
    unfold flat at h1 ⊢
    simp only [List.map_cons, List.flatten_cons, List.length_append, List.length_cons]
    omega
theorem flat_bnd (ns : List Int) : ∀ x ∈ flat ns, 0 ≤ x ∧ x < 1009 := fun x h => by
  unfold flat at h
  obtain ⟨l, h1, h2⟩ := List.mem_flatten.mp h
  obtain ⟨c, _, rfl⟩ := List.mem_map.mp h1
  exact chunk_bnd c x h2
theorem good_stream {ns : List Int} (h : ns.length ≤ 63) : Good (streamOf ns) := by
  have h1 := flat_len ns
  have h2 := flat_bnd ns
  unfold streamOf
  split
  · exact ⟨by simp, by simp, fun x m => by simp at m; omega, fun x m => by simp at m; omega⟩
  · rename_i q
    refine ⟨?_, by omega, fun x m => (h2 x m).1, fun x m => (h2 x m).2⟩
    cases e : flat ns with
    | nil => exact absurd e q
    | cons a l => simp
theorem cut_to {ds : List D} {n : Nat} (h : ds.length ≤ n) : cutD ds none (some (n : Int)) = ds := by
  unfold cutD
  rw [HT.sIx_none, HT.sIx_nat]
  simp [Nat.min_eq_right h]
theorem nthD_ints {ns : List Int} {i : Nat} (h : i < ns.length) : nthD (ns.map PyData.int) i = .int (ns.getD i 0) := by
  unfold nthD
  rw [List.getD_eq_getElem?_getD, List.getElem?_map, List.getElem?_eq_getElem h, List.getD_eq_getElem?_getD, List.getElem?_eq_getElem h]
  rfl
theorem flat_take {ns : List Int} {i : Nat} (h : i < ns.length) : flat (ns.take (i + 1)) = flat (ns.take i) ++ chunk (ns.getD i 0) := by
  unfold flat
  rw [List.take_add_one, List.getElem?_eq_getElem h, List.getD_eq_getElem?_getD, List.getElem?_eq_getElem h]
  simp only [Option.toList, List.map_append, List.flatten_append, List.map_cons, List.map_nil, List.flatten_cons, List.flatten_nil, List.append_nil]
  rfl
end DL
namespace DL
open PySem PySem.Spec PyProof.Rows L2
variable [TabC]
set_option maxHeartbeats 8000000 in
theorem enumNew1 {v : Value} {o : Obj} {H : Heap → Prop} (B : Begins v o H) :
    Meets (Builtin.«enumerate.__new__» ⟨[.type "enumerate", v], []⟩) (fun _ R s => H s.heap ∧
      R (.ok (.ret (.ref (s.heap.push o).objs.size))) { s with heap := (s.heap.push o).push { cls := .type "enumerate", data := .fields #[.none, .bool false, .ref s.heap.objs.size, rawInt 0, .none, .none] } }) :=
  .of_wp fun prog w A R s h => by
    obtain ⟨hp, gs, dr, tk, os⟩ := s
    obtain ⟨h1, h⟩ := h
    have hsub := sub_enumerate
    have it1 : ∀ {A' : Around} {E : Value → Shared → Prop} {Q : Value → Shared → Prop}, Q (.ref hp.objs.size) ⟨hp.push o, gs, dr, tk, os⟩ → wpAny (model prog w) A' (pyIter v) Q E ⟨hp, gs, dr, tk, os⟩ :=
      fun q => B.iter prog w _ _ ⟨hp, gs, dr, tk, os⟩ _ h1 q
    wp_walk using it1
    refine wpAny_stack_any fun st => wpAny_pure ?_
    split
    · rename_i c _ _ _ _ _
      cases (c == Value.type "enumerate")
      · (wp_walk using it1); exact ⟨_, rfl, h⟩
      · (wp_walk using it1); exact ⟨_, rfl, h⟩
    · (wp_walk using it1); exact ⟨_, rfl, h⟩
theorem enumCall1 {prog : Program} {w : World} {A : Around} {E : Value → Shared → Prop} {s : Shared} {v : Value} {o : Obj} {H : Heap → Prop} {Q : Value → Shared → Prop} (B : Begins v o H) (h1 : H s.heap)
    (h : ∀ h', IsEnum h' (s.heap.objs.size + 1) s.heap.objs.size 0 .none → h'.get? s.heap.objs.size = some o → (∀ b u, s.heap.get? b = some u → h'.get? b = some u) → Q (.ref (s.heap.objs.size + 1)) { s with heap := h' }) :
    wpAny (model prog w) A (call (.type "enumerate") [v]) Q E s := by
  refine callType_new F.called_enumerate (by decide) (F.typeCall_enumerate_1 _) (F.newCall_enumerate_1 _) (fun obj => F.args_object_init_2 obj _) F.entry_enumerate_new (enumNew1 B) ⟨h1, ?_⟩
  have hz : (s.heap.push o).objs.size = s.heap.objs.size + 1 := Heap.size_push ..
  show _ ∧ _
  rw [hz]
  have he := Heap.get?_push_size (s.heap.push o) (o := { cls := .type "enumerate", data := .fields #[.none, .bool false, .ref s.heap.objs.size, rawInt 0, .none, .none] }) rfl
  rw [hz] at he
  exact ⟨⟨_, he, rfl⟩, h _ he (Heap.get?_push_of_some _ (Heap.get?_push_size _ B.free)) fun b u x => Heap.get?_push_of_some _ (Heap.get?_push_of_some _ x)⟩
def IteT (K : PySem.W.Frag) (a : Addr) : It :=
  ⟨fun i H => ∃ (xs : List V) (x : V), SqT K H a xs ∧ xs[i]? = some x,
    fun i H v H' => ∃ T x o, v = .ref T ∧ H T = none ∧ o.dict = none ∧ H' = upd H T (.frz o (.tup [.int (i : Nat), x])) ∧ ∀ xs, SqT K H a xs → xs[i]? = some x,
    fun i H => ∃ xs : List V, SqT K H a xs ∧ xs.length = i⟩
theorem turnEnumT {P : Program} {w : World} {K : PySem.W.Frag} {elts : List Expr} {kk : Nat} {tpos : Pos} (a e it : Addr) :
    L2.Turn P w K (.Tuple elts kk tpos) (IteT K a) [e, it] e (fun i h => (∃ old, IsEnum h e it ((i : Nat) : Int) old) ∧ h.IsTupleIter it a i ∧ e ≠ it) where
  mem := by simp
  obj := fun i h st b hb => by
    obtain ⟨⟨old, he⟩, ⟨o, ho, hc, hd⟩, _⟩ := st
    rcases (show b = e ∨ b = it by simpa using hb) with z | z
    · rw [z]
      exact ⟨_, he, fun v q => nomatch q⟩
    · rw [z]
      exact ⟨o, ho, fun v q => by rw [hd] at q; cases q⟩
  keep := fun i h h' st k => ⟨let ⟨old, he⟩ := st.1; ⟨old, k e (by simp) _ he⟩, st.2.1.at fun o q => k it (by simp) o q, st.2.2⟩
  item := by
    intro X hP hw hK hc i pins s σ H E I hf st hg
    subst hP hw hK
    obtain ⟨⟨old, he⟩, hit, hne⟩ := st
    obtain ⟨xs, x, hq, hx⟩ := hg
    obtain ⟨its, rv, ht, hz⟩ := I.tuple hq
    have hlen := rv.length
    have hi : i < its.toArray.size := by
      have := (List.getElem?_eq_some_iff.mp hx).1
      simp
      omega
    have hae : a ≠ e := fun z => by
      obtain ⟨o, h1, h2, _⟩ := ht
      rw [z] at h1
      have h3 : some o = some _ := h1.symm.trans he
      cases h3
      exact absurd (Value.type.inj h2) (by decide)
    have hai : a ≠ it := fun z => by
      obtain ⟨o, h1, h2, _⟩ := ht
      obtain ⟨o', h3, h4, _⟩ := hit
      rw [z] at h1
      rw [h1] at h3
      cases h3
      rw [h2] at h4
      exact absurd (Value.type.inj h4) (by decide)
    have hel : e < s.heap.objs.size := Heap.lt_size he
    have hil : it < s.heap.objs.size := by
      obtain ⟨_, q, _⟩ := hit
      exact Heap.lt_size q
    have D := Draws.tuple (prog := X.prog) (w := X.w) (A := X.A.in1) (show X.A.in1.handled = none from I.ok.hd hc) it a hai its.toArray
    refine wpAny_pyNext_enum_itemD D he ⟨hit, ht⟩ hi hne (by simp [hne, Ne.symm hae]) fun u h' tk hu ho hst hT hsz hk => ?_
    obtain ⟨u', hu', ru⟩ := rv.get hx
    have eu : u' = u := by
      have : its[i]? = some u := by simpa using hu
      rw [hu'] at this
      cases this
      rfl
    subst eu
    refine ⟨_, rfl, wpAny_letOwnedTupleGo_enum (s := { s with heap := h', toks := tk + 1 }) ho fun h2 he2 sb => ?_⟩
    have hT2 : h2.get? s.heap.objs.size = some { cls := .type "tuple", data := .seq #[.int i tk, u'] } := (sb.2 _ (Nat.ne_of_gt hel)).trans hT
    have new : ObjOk X.prog X.w (upd H s.heap.objs.size (.frz (tupO [.int i tk, u']) (.tup [.int (i : Nat), x]))) h2 s.heap.objs.size (.frz (tupO [.int i tk, u']) (.tup [.int (i : Nat), x])) :=
      ⟨hT2, by show 2 ≤ sizeLine; decide, [.int i tk, u'], .cons ⟨_, rfl⟩ (.cons ru .nil), ⟨_, hT2, rfl, _, rfl⟩⟩
    have I1 : L2.Inv X pins σ (upd H s.heap.objs.size (.frz (tupO [.int i tk, u']) (.tup [.int (i : Nat), x]))) { s with heap := h2, toks := tk + 1 } :=
      I.turnedNew (ch := [e, it]) (fun b ob hb q => (sb.2 b fun z => hb (by simp [z])).trans (hk b ob (fun z => hb (by simp [z])) (fun z => hb (by simp [z])) q)) hf (Nat.le_refl _) new
    refine ⟨.ref s.heap.objs.size, _, I1, rfl, ⟨_, x, _, rfl, I.hok.fresh (Nat.le_refl _), rfl, rfl, fun ys hy => by rw [I.tuple_inj hy hq]; exact hx⟩, ⟨⟨u', ?_⟩, hst.1.at fun o q => (sb.2 it (Ne.symm hne)).trans q, hne⟩, fun b hb => ?_⟩
    · rw [show ((i + 1 : Nat) : Int) = (i : Int) + 1 by omega]
      exact he2
    · have lt : b < s.heap.objs.size := by
        rcases (show b = e ∨ b = it by simpa using hb) with z | z <;> rw [z] <;> assumption
      rw [upd_ne (Nat.ne_of_lt lt)]
      exact (hf b hb).1
  done := by
    intro X hP hw hK hc i pins s σ H E I hf st hg
    subst hP hw hK
    obtain ⟨⟨old, he⟩, hit, hne⟩ := st
    obtain ⟨xs, hq, hx⟩ := hg
    obtain ⟨its, rv, ht, hz⟩ := I.tuple hq
    obtain ⟨f0, f1, f2, f3, f4, f5⟩ := hf it (by simp)
    have hai : a ≠ it := fun z => by
      obtain ⟨o, h1, h2, _⟩ := ht
      obtain ⟨o', h3, h4, _⟩ := hit
      rw [z] at h1
      rw [h1] at h3
      cases h3
      rw [h2] at h4
      exact absurd (Value.type.inj h4) (by decide)
    have D := Draws.tuple (prog := X.prog) (w := X.w) (A := X.A.in1) (show X.A.in1.handled = none from I.ok.hd hc) it a hai its.toArray
    have en : i = its.toArray.size := by
      have := rv.length
      simp
      omega
    subst en
    exact wpAny_pyNext_enum_endD D he ⟨hit, ht⟩ fun h' eb => ⟨rfl, I.turned (t' := s.toks) (fun b o hb q => eb b o hb q) f0 f1 f3 f4 f5⟩
  self := fun A i s Q E st h => let ⟨⟨_, he⟩, _⟩ := st; wpAny_pyIter_enum he h
def iEnT (K : PySem.W.Frag) (ta : TA) : TI := fun σ H R => ta σ H fun vs H1 => ∃ a xs, vs = [.ref a] ∧ SqT K H1 a xs ∧ R (IteT K a) H1
theorem pi_enumT {X : Cx} {e : Expr} {ta : TA} {p pos tpos : Pos} {elts : List Expr} {kk : Nat} (hg : Gl X "enumerate") (hm : X.mg "enumerate" = none) (ha : PA X [e] ta) (hs : starEach [e] X.env = [(false, eval e X.env)] := by rfl) :
    PI X (.Tuple elts kk tpos) (.Call (.Name "enumerate" p) [e] [] pos) (iEnT X.K ta) := by
  refine ⟨fun pins s σ H R I h => ?_⟩
  refine Call_ (ld_blt I hg hm boot_enumerate (PyProof.Rows.callWith_type1 (thn (ha.run pos pins s σ H _ I h) fun us s1 ⟨vs, H1, I1, r1, q1⟩ => ?_) hs rfl))
  obtain ⟨a, xs, rfl, hq, q⟩ := q1
  obtain ⟨u, rfl, ru⟩ := vals1 r1
  cases ru
  obtain ⟨its, rv, ht, hz⟩ := I1.tuple hq
  refine enumCall1 (begins_tuple a its.toArray) ht fun h' he hit hk => wpAny_pyIter_enum he ?_
  refine ⟨s1.heap.objs.size + 1, [s1.heap.objs.size + 1, s1.heap.objs.size], _, _, H1, rfl, I1.kept (t' := s1.toks) hk, turnEnumT a (s1.heap.objs.size + 1) s1.heap.objs.size, ⟨⟨.none, he⟩, ⟨_, hit, rfl, rfl⟩, Nat.succ_ne_self _⟩, fun b hb => ?_, q⟩
  have hle : s1.heap.objs.size ≤ b := by
    rcases (show b = s1.heap.objs.size + 1 ∨ b = s1.heap.objs.size by simpa using hb) with z | z
    · rw [z]
      exact Nat.le_succ _
    · rw [z]
      exact Nat.le_refl _
  exact I1.fpOk hle (I1.hok.fresh hle)
section
variable {g : Gm} {te : TE} {ρ ρ1 : Rho} {ds : List D} {K : PySem.W.Frag}
def pairD (ds : List D) (i : Nat) : D := .tuple [.int (i : Nat), nthD ds i]
theorem walk_enTD {F : Hp} {a : Addr} {vs : List V} (h : SqT K F a vs) (k : DxAll K F vs ds) : WalkD K F (IteT K a) ds.length (pairD ds) := fun F2 H2 e1 e2 => by
  have q : SqT K H2 a vs := stUp e2 (stUp e1 h)
  have hl := dpAllLen k
  refine ⟨fun i hi => ⟨vs, vs[i]'(by omega), q, by simp [show i < vs.length by omega]⟩, ⟨vs, q, hl⟩, fun i x H' hi y => ?_⟩
  obtain ⟨T, v, o, rfl, hT, ho, rfl, y⟩ := y
  obtain ⟨v', h1, h2⟩ := dpAllGet k (nthD_at hi)
  have := y vs q
  rw [h1] at this
  cases this
  exact ⟨_, .new hT ho (.cons (.int _) (.cons (dpUp e1 h2) .nil))⟩
theorem ei_enT (h : EvD g te ρ (.tuple ds) ρ1) : EvI g (iEnT g.K (tCons te tNil)) ρ ds.length (pairD ds) ρ1 := fun c F H σ k s R q => h c F H σ k s _ fun v F1 H1 s1 e1 x => by
  have kk : c.K = g.K := k.1
  cases x with
  | tup hs ha =>
    rw [kk] at hs ha
    exact ⟨_, _, rfl, stUp s1.fh hs.old, q _ F1 H1 s1 e1 (by rw [kk]; exact walk_enTD hs.old ha)⟩
end
end DL
namespace DL
open PySem PySem.Spec PyProof.Rows L2
variable [TabC]
variable {K : PySem.W.Frag} {g : Gm} {X : Cx}
theorem depthInts : ∀ ns : List Int, PyData.depthAll (ns.map PyData.int) = 0
  | [] => rfl
  | n :: ns => by
    have h := depthInts ns
    simp only [List.map_cons, PyData.depthAll, PyData.depth, h]
    decide
def uMax (K : PySem.W.Frag) : List V → Hp → VK → Prop := fun vs H Q => ∃ (a : Addr) (n : Int) (ns : List Int), vs = [.ref a] ∧ (SqL K H a ((n :: ns).map V.int) ∨ SqT K H a ((n :: ns).map V.int)) ∧ Q (.int (ns.foldl max n)) H
theorem rc_maxL {n : Int} {ns : List Int} : RCD K (uMax K) [.list ((n :: ns).map .int)] (.int (ns.foldl max n)) := fun F H xs Q f a q => by
  obtain ⟨v, rfl, a1⟩ := a.one
  obtain ⟨p, vs, rfl, h1, k1⟩ := a1.list f
  rw [dp_ints k1] at h1
  exact ⟨p, n, ns, rfl, .inl h1, q _ F H (.at (.int _))⟩
theorem rc_maxT {n : Int} {ns : List Int} : RCD K (uMax K) [.tuple ((n :: ns).map .int)] (.int (ns.foldl max n)) := fun F H xs Q f a q => by
  obtain ⟨v, rfl, a1⟩ := a.one
  obtain ⟨p, vs, rfl, h1, k1⟩ := a1.tup f
  rw [dp_ints k1] at h1
  exact ⟨p, n, ns, rfl, .inr h1, q _ F H (.at (.int _))⟩
def rIsaB (K : PySem.W.Frag) : List V → Hp → VK → Prop := rIsi K
theorem cr_isaB : CallR X (.builtin "isinstance") (rIsaB X.K) := call_isi
def tyN : D → String
  | .none => "NoneType"
  | .bool _ => "bool"
  | .int _ => "int"
  | .str _ => "str"
  | .list _ => "list"
  | .tuple _ => "tuple"
  | .dict _ => "dict"
def notDct : D → Bool
  | .dict _ => false
  | _ => true
/-- isinstance of what is no dict -/
def kitN (d : D) (T : String) : Option Bool := if notDct d = true then kitB (tyN d) T else none
theorem tyx_of {F H : Hp} {v : V} {d : D} (e : Same F H) (h : Opd K F H v d) (hn : notDct d = true) : TyX K H v (.type (tyN d)) := by
  cases d with
  | none => rw [h.non]; exact .base .non
  | bool b => rw [h.bl]; exact .base (.bl _)
  | int b => rw [h.int]; exact .base (.int _)
  | str b => rw [h.str]; exact .base (.str _)
  | list ds =>
    obtain ⟨a, vs, rfl, h1, _⟩ := h.list e
    rcases h1 with (h1 | ⟨o, h1⟩) | ⟨o, its, n, hk, hc, _⟩
    · exact .base (.lst h1)
    · exact .base (.frz h1)
    · exact .kList hk hc
  | tuple ds =>
    obtain ⟨a, vs, rfl, h1, _⟩ := h.tup e
    rcases h1 with (h1 | ⟨o, h1⟩) | ⟨o, its, n, hk, hc, _⟩
    · exact .base (.tup h1)
    · exact .fTuple h1
    · exact .kTuple hk hc
  | dict ds => cases hn
theorem ed_isaB {te : TE} {ρ ρ1 : Rho} {A : Arg} {d : D} {T : String} {b : Bool} (ha : EvO g te ρ A ρ1) (dA : A.den ρ1 = some d) (hk0 : kitN d T = some b) : EvD g (tCB (rIsaB g.K) (tCons te (tCons (tC (.ty T)) tNil))) ρ (.bool b) ρ1 := fun c F H σ k s Q q =>
  ha c F H σ k s _ fun v F1 H1 s1 e1 h1 => by
    have o1 := Arg.opd s1 h1 dA
    have kk : c.K = g.K := k.1
    rw [kk] at o1
    unfold kitN at hk0
    split at hk0
    case isFalse => cases hk0
    rename_i hn
    exact ⟨v, .ty T, _, _, b, rfl, .ty T, tyx_of s1.fh o1 hn, kit_ty hk0, q _ F1 H1 s1 e1 (.bl b)⟩
/-- an own thing at slot i is another one now: what stands in its footprint has changed, nothing else -/
theorem Sim.alter {c : Cc} {F H H' : Hp} {σ : L2.St} {ρ : Rho} {fp : Nat → List Addr} (s : SimF c F H σ ρ fp) {i : Nat} {w w' : Ow} {a : Addr} {f' : List Addr} (he : ρ[i]? = some (.own w)) (hσ : σ[i]? = some (some (.ref a)))
    (hout : ∀ b, b ∉ fp i → b ∉ f' → H' b = H b) (hin : ∀ b ∈ fp i, H' b ≠ none) (hr : OwRep c.K F H' a f' w') (hnew : ∀ b ∈ f', b ∈ fp i ∨ (H b = none ∧ H' b ≠ none)) : Sim c F H' σ (ρ.set i (.own w')) := by
  have hi : i < ρ.length := (List.getElem?_eq_some_iff.mp he).1
  have own' : ∀ (j : Nat) (w1 : Ow), (ρ.set i (.own w'))[j]? = some (.own w1) → (j = i ∧ w1 = w') ∨ (j ≠ i ∧ ρ[j]? = some (.own w1)) := fun j w1 q => by
    by_cases z : j = i
    · subst z
      rw [List.getElem?_set_self hi] at q
      cases q
      exact .inl ⟨rfl, rfl⟩
    · rw [List.getElem?_set_ne (Ne.symm z)] at q
      exact .inr ⟨z, q⟩
  have Bn : ∀ b, H b = none → c.B b = none := fun b z => by
    cases q : c.B b with
    | none => rfl
    | some o => exact absurd z (s.dom b (by simp [q]))
  have nf : ∀ (j : Nat) (w1 : Ow) b, j ≠ i → ρ[j]? = some (.own w1) → b ∈ fp j → b ∉ fp i ∧ b ∉ f' := fun j w1 b z q m => by
    have h1 : b ∉ fp i := fun m' => z (s.sep j i w1 w b q he m m')
    refine ⟨h1, fun m' => ?_⟩
    rcases hnew b m' with z' | ⟨z', _⟩
    · exact h1 z'
    · exact (s.ownF j w1 b q m).2.1 z'
  refine ⟨fun j => if j = i then f' else fp j, s.f0, fun b o q => ?_, fun b o q w1 l => ?_, fun b q => ?_, s.av, s.par, fun j d q => ?_, fun j w1 q => ?_, fun j w1 b q m => ?_, fun j k w1 w2 b q q' m m' => ?_, by simpa using s.len, fun j w1 b q m k hk => ?_, s.pb, s.tb, s.tw, s.tl, s.ti.out (fun b => b ∈ fp i ∨ b ∈ f') (fun b z u e => by
    rcases z with z | z
    · exact s.kind he z u e
    · rcases hnew b z with y | ⟨y, _⟩
      · exact s.kind he y u e
      · rw [y] at e; cases e) (fun b z => hout b (fun y => z (.inl y)) fun y => z (.inr y)), s.fl⟩
  · have h1 : b ∉ fp i := fun m => by rw [(s.ownF i w b he m).1] at q; cases q
    have h2 : b ∉ f' := fun m => by
      rcases hnew b m with z | ⟨z, _⟩
      · exact h1 z
      · rw [s.fh b o q] at z; cases z
    rw [hout b h1 h2]
    exact s.fh b o q
  · have h1 : b ∉ fp i := fun m => by
      rcases (s.ownF i w b he m).2.2 with z | z
      · rw [z] at q; cases q
      · exact w1 z
    have h2 : b ∉ f' := fun m => by
      rcases hnew b m with z | ⟨z, _⟩
      · exact h1 z
      · rw [Bn b z] at q; cases q
    rw [hout b h1 h2]
    exact s.keep b o q w1 l
  · by_cases h1 : b ∈ fp i
    · exact hin b h1
    · by_cases h2 : b ∈ f'
      · rcases hnew b h2 with z | ⟨_, z⟩
        · exact absurd z h1
        · exact z
      · rw [hout b h1 h2]
        exact s.dom b q
  · by_cases z : j = i
    · subst z
      rw [List.getElem?_set_self hi] at q
      cases q
    · rw [List.getElem?_set_ne (Ne.symm z)] at q
      exact s.dat j d q
  · rcases own' j w1 q with ⟨rfl, rfl⟩ | ⟨z, q⟩
    · exact ⟨a, hσ, by simpa using hr⟩
    · obtain ⟨b, k1, k2⟩ := s.own j w1 q
      refine ⟨b, k1, ?_⟩
      rw [if_neg z]
      exact k2.up (Same.refl _) fun x m => hout x (nf j w1 x z q m).1 (nf j w1 x z q m).2
  · rcases own' j w1 q with ⟨rfl, rfl⟩ | ⟨z, q⟩
    · have m : b ∈ f' := by simpa using m
      rcases hnew b m with z | ⟨z, z2⟩
      · obtain ⟨k1, k2, k3⟩ := s.ownF j w b he z
        exact ⟨k1, hin b z, k3⟩
      · exact ⟨freeF s.fh z, z2, .inl (Bn b z)⟩
    · have m : b ∈ fp j := by simpa [z] using m
      obtain ⟨k1, k2, k3⟩ := s.ownF j w1 b q m
      exact ⟨k1, by rw [hout b (nf j w1 b z q m).1 (nf j w1 b z q m).2]; exact k2, k3⟩
  · rcases own' j w1 q with ⟨rfl, rfl⟩ | ⟨z, q⟩
    · rcases own' k w2 q' with ⟨rfl, rfl⟩ | ⟨z', q'⟩
      · rfl
      · exact absurd (by simpa using m) (nf k w2 b z' q' (by simpa [z'] using m')).2
    · rcases own' k w2 q' with ⟨rfl, rfl⟩ | ⟨z', q'⟩
      · exact absurd (by simpa using m') (nf j w1 b z (by assumption) (by simpa [z] using m)).2
      · exact s.sep j k w1 w2 b q q' (by simpa [z] using m) (by simpa [z'] using m')
  · rcases own' j w1 q with ⟨rfl, rfl⟩ | ⟨z, q⟩
    · have m : b ∈ f' := by simpa using m
      rcases hnew b m with z | ⟨z, _⟩
      · exact s.wp j w b he z k hk
      · exact absurd (Bn b z) (s.pb k b hk)
    · exact s.wp j w1 b q (by simpa [z] using m) k hk
def keyD : D → Option Key
  | .int i => some (.inl i)
  | .str x => some (.inr x)
  | _ => none
theorem dp_key {F : Hp} {v : V} {k : Key} (h : Dx K F v (keyOf k)) : v = kV k := by
  cases k with
  | inl i => cases h; rfl
  | inr x => cases h; rfl
def valD (kvs : List (Key × D)) (k : Key) : Option D := (kvs.find? fun kv => decide (kv.1 = k)).map (·.2)
def putD (kvs : List (Key × D)) (k : Key) (d : D) : List (Key × D) := if (kvs.any fun kv => decide (kv.1 = k)) = true then kvs.map (fun kv => if kv.1 = k then (kv.1, d) else kv) else kvs ++ [(k, d)]
theorem kd_len {F : Hp} : ∀ {xs : List (Key × V)} {kvs : List (Key × D)}, KD K F xs kvs → xs.length = kvs.length
  | _, _, .nil => rfl
  | _, _, .cons _ t => by simp [kd_len t]
theorem kd_any {F : Hp} (k : Key) : ∀ {xs : List (Key × V)} {kvs : List (Key × D)}, KD K F xs kvs → (xs.any fun kv => decide (kv.1 = k)) = (kvs.any fun kv => decide (kv.1 = k))
  | _, _, .nil => rfl
  | _, _, .cons (a := p) (b := q) r t => by
    rw [List.any_cons, List.any_cons, kd_any k t, r.1]
theorem kd_val {F : Hp} (k : Key) : ∀ {xs : List (Key × V)} {kvs : List (Key × D)}, KD K F xs kvs → (valV xs k = none ∧ valD kvs k = none) ∨ ∃ v d, valV xs k = some v ∧ valD kvs k = some d ∧ Dx K F v d
  | _, _, .nil => .inl ⟨rfl, rfl⟩
  | _, _, .cons (a := p) (b := q) r t => by
    have ih := kd_val k t
    unfold valV valD at ih ⊢
    rw [List.find?_cons, List.find?_cons, r.1]
    by_cases e : q.1 = k
    · rw [decide_eq_true e]
      exact .inr ⟨p.2, q.2, rfl, rfl, r.2⟩
    · rw [decide_eq_false e]
      exact ih
theorem kd_map {F : Hp} (k : Key) {v : V} {d : D} (hv : Dx K F v d) : ∀ {xs : List (Key × V)} {kvs : List (Key × D)}, KD K F xs kvs → KD K F (xs.map fun kv => if kv.1 = k then (kv.1, v) else kv) (kvs.map fun kv => if kv.1 = k then (kv.1, d) else kv)
  | _, _, .nil => .nil
  | _, _, .cons (a := p) (b := q) r t => by
    refine .cons ?_ (kd_map k hv t)
    dsimp only
    rw [r.1]
    by_cases e : q.1 = k
    · rw [if_pos e, if_pos e]
      exact ⟨rfl, hv⟩
    · rw [if_neg e, if_neg e]
      exact r
theorem kd_app {F : Hp} : ∀ {xs ys : List (Key × V)} {kvs lvs : List (Key × D)}, KD K F xs kvs → KD K F ys lvs → KD K F (xs ++ ys) (kvs ++ lvs)
  | _, _, _, _, .nil, h => h
  | _, _, _, _, .cons r t, h => .cons r (kd_app t h)
theorem kd_put {F : Hp} {k : Key} {v : V} {d : D} (hv : Dx K F v d) {xs : List (Key × V)} {kvs : List (Key × D)} (h : KD K F xs kvs) : KD K F (putK xs k v) (putD kvs k d) := by
  unfold putK putD
  rw [kd_any k h]
  split
  · exact kd_map k hv h
  · exact kd_app h (.cons ⟨rfl, hv⟩ .nil)
theorem Sim.dkAt {c : Cc} {F H : Hp} {σ : L2.St} {ρ : Rho} (s : Sim c F H σ ρ) {i : Nat} {kvs : List (Key × D)} (he : ρ[i]? = some (.own (.dK kvs))) : ∃ a xs, σ[i]? = some (some (.ref a)) ∧ H a = some (.dK xs) ∧ KD c.K F xs kvs ∧ ∀ o w', OwRep c.K F (upd H a o) a [a] w' → Sim c F (upd H a o) σ (ρ.set i (.own w')) := by
  obtain ⟨fp, sf⟩ := s
  obtain ⟨a, e1, e2, xs, e3, e4⟩ := sf.own i _ he
  refine ⟨a, xs, e1, e3, e4, fun o w' hr => Sim.alter sf he e1 (fun b m _ => ?_) (fun b m => ?_) hr (fun b m => .inl (by rw [e2]; exact m))⟩
  · rw [upd_ne (fun z => m (by rw [e2, z]; simp))]
  · by_cases z : b = a
    · rw [z, upd_same]; simp
    · rw [upd_ne z]; exact (sf.ownF i _ b he m).2.1
section
variable {te ti : TE} {ρ ρ1 ρ2 : Rho} {d : D} {i : Nat} {k : Key} {P : Out → Prop} {kvs kvs0 : List (Key × D)}
/-- x = {} -/
theorem sv_newDict (h : P (.nx (ρ.set i (.own (.dK []))))) (hi : i < ρ.length) (hp : i ∉ g.ps) : Sv g (tAsg tDNewK (gName i)) ρ P := fun c F H σ E kk s p q hq => by
  obtain ⟨fp, sf⟩ := id s
  have hB : c.B q = none := by
    cases z : c.B q with
    | none => rfl
    | some u => exact absurd hq (sf.dom q (by simp [z]))
  have no : ∀ (j : Nat) (w : Ow), ρ[j]? = some (.own w) → q ∉ fp j := fun j w z m => (sf.ownF j w q z m).2.1 hq
  exact p.nx _ F (upd H q (.dK [])) _ h ((sf.other (freeF sf.fh hq) hB no (fun u e => by rw [hq] at e; cases e)).setOwn (f := [q]) ⟨rfl, [], upd_same, .nil⟩ (fun b m => by
    have z : b = q := by simpa using m
    subst z
    exact ⟨freeF sf.fh hq, by rw [upd_same]; simp, hB⟩) (fun j w' b z m => by
    have y : b = q := by simpa using m
    subst y
    exact no j w' z) hi (notP kk hp)) (Same.refl _)
theorem ed_din (hk : EvD g ti ρ (keyOf k) ρ1) (h1 : ρ1[i]? = some (.own (.dK kvs))) : EvD g (tDIn ti (tVar i)) ρ (.bool (valD kvs k).isSome) ρ1 := fun c F H σ kk s Q q => hk c F H σ kk s _ fun v F1 H1 s1 e1 x => by
  obtain ⟨a, xs, f1, f2, f3, _⟩ := s1.dkAt h1
  refine ⟨_, f1, a, valV xs k, rfl, ?_, ?_⟩
  · rw [dp_key x]
    exact DGet.k f2
  · rcases kd_val k f3 with ⟨z1, z2⟩ | ⟨v', d', z1, z2, _⟩ <;> rw [z1] <;> rw [z2] at q <;> exact q _ F1 H1 s1 e1 (.bl _)
theorem ed_dnotin (hk : EvD g ti ρ (keyOf k) ρ1) (h1 : ρ1[i]? = some (.own (.dK kvs))) : EvD g (tDNotIn ti (tVar i)) ρ (.bool (!(valD kvs k).isSome)) ρ1 := fun c F H σ kk s Q q => hk c F H σ kk s _ fun v F1 H1 s1 e1 x => by
  obtain ⟨a, xs, f1, f2, f3, _⟩ := s1.dkAt h1
  refine ⟨_, f1, a, valV xs k, rfl, ?_, ?_⟩
  · rw [dp_key x]
    exact DGet.k f2
  · rcases kd_val k f3 with ⟨z1, z2⟩ | ⟨v', d', z1, z2, _⟩ <;> rw [z1] <;> rw [z2] at q <;> exact q _ F1 H1 s1 e1 (.bl _)
theorem ed_dget (h0 : ρ[i]? = some (.own (.dK kvs0))) (hk : EvD g ti ρ (keyOf k) ρ1) (h1 : ρ1[i]? = some (.own (.dK kvs))) (hd : valD kvs k = some d) : EvD g (tDGet (tVar i) ti) ρ d ρ1 := fun c F H σ kk s Q q => by
  obtain ⟨a, xs, f1, f2, f3, _⟩ := s.dkAt h0
  refine ⟨_, f1, hk c F H σ kk s _ fun v F1 H1 s1 e1 x => ?_⟩
  obtain ⟨a', ys, g1, g2, g3, _⟩ := s1.dkAt h1
  have := some_inj2 f1 g1
  subst this
  rcases kd_val k g3 with ⟨z1, z2⟩ | ⟨v', d', z1, z2, z3⟩
  · rw [z2] at hd; cases hd
  · rw [hd] at z2
    cases z2
    refine ⟨a, v', rfl, ?_, q v' F1 H1 s1 e1 z3⟩
    rw [dp_key x, ← z1]
    exact DGet.k g2
theorem sv_dput (he : EvD g te ρ d ρ1) (h0 : ρ1[i]? = some (.own (.dK kvs0))) (hk : EvD g ti ρ1 (keyOf k) ρ2) (h1 : ρ2[i]? = some (.own (.dK kvs))) (hz : kvs.length < sizeLine) (h : P (.nx (ρ2.set i (.own (.dK (putD kvs k d)))))) :
    Sv g (sDPut (tVar i) ti te) ρ P := fun c F H σ E kk s p => he c F H σ kk.ok s _ fun v F1 H1 s1 e1 x => by
  obtain ⟨a, xs, f1, f2, f3, _⟩ := s1.dkAt h0
  refine ⟨_, f1, hk c F1 H1 σ kk.ok s1 _ fun u F2 H2 s2 e2 y => ?_⟩
  obtain ⟨a', ys, g1, g2, g3, g4⟩ := s2.dkAt h1
  have := some_inj2 f1 g1
  subst this
  refine ⟨a, _, rfl, by rw [dp_key y]; exact DPut.k g2 (by rw [kd_len g3]; exact hz), ?_⟩
  exact p.nx _ _ _ _ h (g4 _ _ ⟨rfl, _, upd_same, kd_put (dpUp e2 x) g3⟩) (e1.trans e2)
end
section
variable {te ti : TE} {ρ ρ1 ρ2 : Rho} {d : D} {i : Nat} {P : Out → Prop} {dss dss0 : List (List D)} {ds : List D}
/-- one own thing hidden: what is done then leaves it as it is -/
theorem SimF.hide {c : Cc} {F H : Hp} {σ : L2.St} {fp : Nat → List Addr} (s : SimF c F H σ ρ fp) (i : Nat) : SimF c F H σ (ρ.set i .no) fp := by
  have o' : ∀ (j : Nat) (w : Ow), (ρ.set i .no)[j]? = some (.own w) → j ≠ i ∧ ρ[j]? = some (.own w) := fun j w q => by
    by_cases z : j = i
    · subst z
      by_cases hl : j < ρ.length
      · rw [List.getElem?_set_self hl] at q; cases q
      · rw [List.getElem?_eq_none (by simpa using hl)] at q; cases q
    · rw [List.getElem?_set_ne (Ne.symm z)] at q; exact ⟨z, q⟩
  have d' : ∀ (j : Nat) (d : D), (ρ.set i .no)[j]? = some (.dat d) → ρ[j]? = some (.dat d) := fun j w q => by
    by_cases z : j = i
    · subst z
      by_cases hl : j < ρ.length
      · rw [List.getElem?_set_self hl] at q; cases q
      · rw [List.getElem?_eq_none (by simpa using hl)] at q; cases q
    · rw [List.getElem?_set_ne (Ne.symm z)] at q; exact q
  exact ⟨s.f0, s.fh, s.keep, s.dom, s.av, s.par, fun j d q => s.dat j d (d' j d q), fun j w q => s.own j w (o' j w q).2, fun j w b q => s.ownF j w b (o' j w q).2, fun j k w w' b q q' => s.sep j k w w' b (o' j w q).2 (o' k w' q').2, by simpa using s.len, fun j w b q => s.wp j w b (o' j w q).2, s.pb, s.tb, s.tw, s.tl, s.ti, s.fl⟩
theorem hide_own {i j : Nat} {w : Ow} (q : (ρ.set i .no)[j]? = some (.own w)) : j ≠ i ∧ ρ[j]? = some (.own w) := by
  by_cases z : j = i
  · subst z
    by_cases hl : j < ρ.length
    · rw [List.getElem?_set_self hl] at q; cases q
    · rw [List.getElem?_eq_none (by simpa using hl)] at q; cases q
  · rw [List.getElem?_set_ne (Ne.symm z)] at q; exact ⟨z, q⟩
end
end DL
namespace DL
open PySem PySem.Spec PyProof.Rows L2
variable [TabC]
variable {K : PySem.W.Frag} {g : Gm} {X : Cx}
def lentE : Ent → Ent
  | .dat d => .dat d
  | .own (.lst ds) => .dat (.list ds)
  | .own (.lls dss) => .dat (.list (dss.map .list))
  | _ => .no
theorem lendF {c : Cc} {F H : Hp} {σ : L2.St} {ρ : Rho} {fp : Nat → List Addr} (s : SimF c F H σ ρ fp) : ∃ F', Same F F' ∧ Sim (c.re F' H noW) F' H σ (ρ.map lentE) := by
  classical
  let own1 : Addr → Prop := fun a => ∃ (i : Nat) (w : Ow), ρ[i]? = some (.own w) ∧ a ∈ fp i
  let F' : Hp := fun a => if own1 a then H a else F a
  have e1 : Same F F' := fun a o q => by
    have : ¬ own1 a := fun ⟨i, w, e, m⟩ => by rw [(s.ownF i w a e m).1] at q; cases q
    simp only [F', if_neg this]
    exact q
  have e2 : Same F' H := fun a o q => by
    by_cases z : own1 a
    · simpa [F', if_pos z] using q
    · simp only [F', if_neg z] at q
      exact s.fh a o q
  have at1 : ∀ a, own1 a → F' a = H a := fun a z => by simp only [F', if_pos z]
  have own0 : ∀ (i : Nat) (w : Ow), (ρ.map lentE)[i]? ≠ some (.own w) := fun i w q => by
    rw [List.getElem?_map] at q
    cases e : ρ[i]? with
    | none => rw [e] at q; cases q
    | some en =>
      rw [e] at q
      cases en with
      | no => cases q
      | dat d => cases q
      | own w' => cases w' <;> cases q
  refine ⟨F', e1, fun _ => [], Same.refl _, e2, fun a o q _ _ => q, fun a q => q, fun a _ q => q, s.par, fun i d q => ?_, fun i w q => (own0 i w q).elim, fun i w b q => (own0 i w q).elim, fun i j w w' b q => (own0 i w q).elim, by rw [List.length_map]; exact s.len, fun i w b q => (own0 i w q).elim, fun j b m => s.dom b (s.pb j b m), s.tabs, fun _ _ z => z, s.tl, s.ti, fun a l => (if_neg fun ⟨i, w, e, m⟩ => s.noLam e m l).trans (s.fl a l)⟩
  rw [List.getElem?_map] at q
  cases e : ρ[i]? with
  | none => rw [e] at q; cases q
  | some en =>
    rw [e] at q
    cases en with
    | no => cases q
    | dat d' =>
      cases q
      obtain ⟨v, h1, h2⟩ := s.dat i _ e
      exact ⟨v, h1, dpUp e1 h2⟩
    | own w =>
      obtain ⟨a, h1, h2⟩ := s.own i w e
      cases w with
      | lst ds =>
        cases q
        obtain ⟨e3, vs, h3, h4⟩ := h2
        exact ⟨_, h1, .lst (.inl (.inl (by rw [at1 a ⟨i, _, e, by rw [e3]; simp⟩]; exact h3))) (dpAllUp e1 h4)⟩
      | lls dss =>
        cases q
        obtain ⟨bs, e3, nd, h3, h4⟩ := h2
        refine ⟨_, h1, .lst (.inl (.inl (by rw [at1 a ⟨i, _, e, by rw [e3]; simp⟩]; exact h3))) ?_⟩
        have all : ∀ (bs' : List Addr) (dss' : List (List D)), (∀ b ∈ bs', b ∈ fp i) → Paired (fun b ds => ∃ vs, H b = some (.lst vs) ∧ DxAll c.K F vs ds) bs' dss' → DxAll c.K F' (bs'.map V.ref) (dss'.map .list) := by
          intro bs' dss' hm hp
          induction hp with
          | nil => exact .nil
          | cons r t ih =>
            obtain ⟨vs, k1, k2⟩ := r
            refine .cons (.lst (.inl (.inl ?_)) (dpAllUp e1 k2)) (ih fun b m => hm b (List.mem_cons_of_mem _ m))
            rw [at1 _ ⟨i, _, e, hm _ List.mem_cons_self⟩]
            exact k1
        exact all bs dss (fun b m => by rw [e3]; exact List.mem_cons_of_mem _ m) h4
      | dK kvs => cases q
      | dF kvs => cases q
      | dT kvs => cases q
/-- back: all stood as it was -/
theorem lendBack {c : Cc} {F H F' F2 H2 : Hp} {σ : L2.St} {ρ ρ' : Rho} {fp : Nat → List Addr} (s : SimF c F H σ ρ fp) (e : Same F F') (t : Sim (c.re F' H noW) F2 H2 σ ρ') : Sim c F H2 σ ρ := by
  obtain ⟨fp', t⟩ := t
  have k : ∀ a o, H a = some o → ¬ lamW a → H2 a = some o := fun a o q l => t.keep a o q id l
  have ke : ∀ (i : Nat) (w : Ow) b, ρ[i]? = some (.own w) → b ∈ fp i → H2 b = H b := fun i w b q m => by
    cases z : H b with
    | none => exact absurd z (s.ownF i w b q m).2.1
    | some o => exact k b o z (s.noLam q m)
  refine ⟨fp, s.f0, (e.trans t.f0).trans t.fh, fun a o q w l => k a o (s.keep a o q w l) l, fun a q => t.dom a (s.dom a q), s.av, s.par, s.dat, fun i w q => ?_, fun i w b q m => ?_, s.sep, s.len, s.wp, s.pb, s.tb, s.tw, s.tl, t.ti, s.fl⟩
  · obtain ⟨a, h1, h2⟩ := s.own i w q
    exact ⟨a, h1, h2.up (Same.refl _) fun b m => ke i w b q m⟩
  · obtain ⟨h1, h2, h3⟩ := s.ownF i w b q m
    exact ⟨h1, by rw [ke i w b q m]; exact h2, h3⟩
theorem et_lend {tt : TT} {ρ ρ' : Rho} {b : Bool} (h : EvT g tt (ρ.map lentE) b ρ') : EvT g tt ρ b ρ := fun c F H σ k s Q q => by
  obtain ⟨fp, sf⟩ := s
  obtain ⟨F', e, s'⟩ := lendF sf
  exact h (c.re F' H noW) F' H σ k s' Q fun F2 H2 s2 _ => q F H2 (lendBack sf e s2) (Same.refl _)
inductive RetX where
  | ok (r : RetV)
  | exc (C : Addr)
def RxOk (K : PySem.W.Frag) (F H : Hp) (Q : VK) (E : XK) : RetX → Prop
  | .ok r => ∀ v F' H', Sim ⟨K, [], noW, F, H⟩ F' H' [] [] → RetOk ⟨K, [], noW, F, H⟩ F' H' v r → Q v H'
  | .exc C => ∀ F' H', Sim ⟨K, [], noW, F, H⟩ F' H' [] [] → E (.ref C) none H'
def spX (R : List D → RetX → Prop) (K : PySem.W.Frag) : Sp := fun vs H Q E => ∃ F ds r, SameT F H ∧ DxAll K F vs ds ∧ R ds r ∧ RxOk K F H Q E r
/-- raise C('..') -/
def tRaiseO (C : Addr) (E : XK) : TS := fun _ _ H => E (.ref C) none H
theorem sv_raise {ρ : Rho} {C : Addr} {P : Out → Prop} (h : P (.ex C ρ)) : Sv g (tRaiseO C g.xe) ρ P := fun c F H σ E k s p => p.ex _ _ _ _ _ h s (Same.refl _)
section
variable {t : TA} {ρ ρ1 : Rho} {As : List Arg} {ds : List D} {d : D} {E : XK}
/-- a call that gives a value -/
theorem ed_callX {R : List D → RetX → Prop} (ha : EvA g t ρ As ρ1) (hR : R ds (.ok (.dat d))) (hd : datas As = some ds := by rfl) : EvD g (tCall (spX R g.K) [] E t) ρ d ρ1 := fun c F H σ k s Q q =>
  ha c F H σ k s _ fun vs F1 H1 s1 e1 h1 => by
    have kk : c.K = g.K := k.1
    obtain ⟨fp, sf⟩ := id s1
    rw [List.append_nil, ← kk]
    refine ⟨F1, ds, .ok (.dat d), s1.ft, h1.datas hd, hR, fun v F' H' t r => ?_⟩
    have t' := sf.after t
    exact q v F' H' ⟨fp, t'⟩ (e1.trans t.f0) r
/-- try: f(..) except C as e: suite -/
def tTryCall (R : List D → RetX → Prop) (K : PySem.W.Frag) (c : Value) (i : Nat) (ts : Addr → Value → Option Addr → TS) (t : TA) : TS := fun D σ H => tDrop (tCallS (spX R K) (WE (wAs K c i ts (fun _ _ _ _ => False) D)) t) D σ H
theorem sv_tryOk {R : List D → RetX → Prop} {cv : Value} {i : Nat} {ts : Addr → Value → Option Addr → TS} {P : Out → Prop} (ha : EvA g t ρ As ρ1) (hR : R ds (.ok (.dat d))) (hd : datas As = some ds) (h : P (.nx ρ1)) : Sv g (tTryCall R g.K cv i ts t) ρ P := fun c F H σ D k s p =>
  ha c F H σ k.ok s _ fun vs F1 H1 s1 e1 h1 => by
    have kk : c.K = g.K := k.ok.1
    obtain ⟨fp, sf⟩ := id s1
    rw [← kk]
    refine ⟨F1, ds, .ok (.dat d), s1.ft, h1.datas hd, hR, fun v F' H' t r => ?_⟩
    exact p.nx _ F' H' σ h ⟨fp, sf.after t⟩ (e1.trans t.f0)
/-- .. the suite gives a truth value back -/
theorem sv_tryEx {R : List D → RetX → Prop} {cv : Value} {i : Nat} {ts : Addr → Value → Option Addr → TS} {P : Out → Prop} {C : Addr} {b : Bool} (ha : EvA g t ρ As ρ1) (hR : R ds (.exc C)) (hd : datas As = some ds) (hc : PySem.W.exmOne g.K (.ref C) cv = some true)
    (hs : ∀ (a : Addr) (σ : L2.St) (H : Hp) (D : Ends), σ[i]? = some (some (.ref a)) → (∀ H', Same H H' → D.rt (.bl b) H') → ts a (.ref C) none D σ H) (hi : i < ρ1.length) (h : P (.rt ρ1 (.dat (.bool b)))) : Sv g (tTryCall R g.K cv i ts t) ρ P := fun c F H σ D k s p =>
  ha c F H σ k.ok s _ fun vs F1 H1 s1 e1 h1 => by
    have kk : c.K = g.K := k.ok.1
    obtain ⟨fp, sf⟩ := id s1
    rw [← kk] at hc ⊢
    refine ⟨F1, ds, .exc C, s1.ft, h1.datas hd, hR, fun F' H' t => ⟨true, hc, fun _ a na => ?_, fun z => nomatch z⟩⟩
    have t' := sf.after t
    refine hs a (σ.set i (some (.ref a))) H' _ (List.getElem?_set_self (by rw [t'.len]; exact hi)) fun H2 e2 => ?_
    have t3 : Sim c F' H2 σ ρ1 := by
      refine ⟨fp, t'.f0, t'.fh.trans e2, fun a o q w l => e2 a o (t'.keep a o q w l), fun a q => ?_, t'.av, t'.par, t'.dat, fun j w q => ?_, fun j w b q m => ?_, t'.sep, t'.len, t'.wp, t'.pb, t'.tb, t'.tw, t'.tl, t'.ti.ext e2, t'.fl⟩
      · cases z : H' a with
        | none => exact absurd z (t'.dom a q)
        | some o => rw [e2 a o z]; simp
      · obtain ⟨a, k1, k2⟩ := t'.own j w q
        refine ⟨a, k1, k2.up (Same.refl _) fun b m => ?_⟩
        cases z : H' b with
        | none => exact absurd z (t'.ownF j w b q m).2.1
        | some o => rw [e2 b o z]
      · obtain ⟨k1, k2, k3⟩ := t'.ownF j w b q m
        refine ⟨k1, ?_, k3⟩
        cases z : H' b with
        | none => exact absurd z k2
        | some o => rw [e2 b o z]; simp
    exact p.rt _ F' H2 σ _ _ h t3 (e1.trans t.f0) (.bl b)
end
/-- of a class, of a tuple of classes -/
def rIsX (K : PySem.W.Frag) (a : Addr) (cls : Value) (d : Option Addr) : List V → Hp → VK → Prop := fun xs H Q => ∃ Da, cls = .ref Da ∧ d = none ∧ ExcC K Da ∧
  ((∃ (c : Addr) (b : Bool), xs = [.ref a, .ref c] ∧ PySem.W.kitOne K (.ref Da) (.ref c) = some b ∧ Q (.bl b) H) ∨
    ∃ (tp : Addr) (cs : List Addr) (b : Bool), xs = [.ref a, .ref tp] ∧ H tp = some (.tup (cs.map V.ref)) ∧ PySem.W.kitAny K (.ref Da) (cs.map Value.ref) = some b ∧ Q (.bl b) H)
def tRefs : List Addr → TA
  | [] => tNil
  | c :: cs => tCons (tC (.ref c)) (tRefs cs)
theorem tRefs_ok : ∀ (cs : List Addr) (σ : L2.St) (H : Hp) (Q : List V → Hp → Prop), Q (cs.map V.ref) H → tRefs cs σ H Q
  | [], σ, H, Q, h => h
  | c :: cs, σ, H, Q, h => tRefs_ok cs σ H _ h
/-- return isinstance(e, S) and (not isinstance(e, (T, ..))) -/
def tSuite (K : PySem.W.Frag) (i : Nat) (S : Addr) (cs : List Addr) : Addr → Value → Option Addr → TS := fun a cls d =>
  tRet (tAndV (tCB (rIsX K a cls d) (tCons (tVar i) (tCons (tC (.ref S)) tNil))) (tNotV (tCB (rIsX K a cls d) (tCons (tVar i) (tCons (tTup (tRefs cs)) tNil)))))
theorem suite_ok {i : Nat} {S C : Addr} {cs : List Addr} (hC : ExcC K C) (h1 : PySem.W.kitOne K (.ref C) (.ref S) = some true) (h2 : PySem.W.kitAny K (.ref C) (cs.map Value.ref) = some false) (hz : cs.length ≤ sizeLine) (a : Addr) (σ : L2.St) (H : Hp) (D : Ends)
    (hσ : σ[i]? = some (some (.ref a))) (q : ∀ H', Same H H' → D.rt (.bl true) H') : tSuite K i S cs a (.ref C) none D σ H := by
  refine ⟨_, hσ, C, rfl, rfl, hC, .inl ⟨S, true, rfl, h1, true, rfl, ?_⟩⟩
  rw [if_pos rfl]
  refine ⟨_, hσ, tRefs_ok cs σ H _ ⟨by rw [List.length_map]; exact hz, fun p hp => ?_⟩⟩
  exact ⟨C, rfl, rfl, hC, .inr ⟨p, cs, false, rfl, upd_same, h2, false, rfl, q _ (sameNew hp)⟩⟩
end DL
namespace DL
open PySem PySem.Spec PyProof.Rows L2
variable [TabC]
variable {K : PySem.W.Frag} {g : Gm}
theorem kd_get {F : Hp} : ∀ {xs : List (Key × V)} {kvs : List (Key × D)} {i : Nat} {k : Key} {v : V}, KD K F xs kvs → xs[i]? = some (k, v) → ∃ d, kvs[i]? = some (k, d) ∧ Dx K F v d
  | _, _, _, _, _, .nil, e => by simp at e
  | _, _, 0, k, v, .cons (a := p) (b := q) r t, e => by
    have e' : p = (k, v) := by simpa using e
    subst e'
    obtain ⟨k', d⟩ := q
    obtain ⟨r1, r2⟩ := r
    dsimp only at r1 r2
    subst r1
    exact ⟨d, rfl, r2⟩
  | _, _, i + 1, k, v, .cons _ t, e => by
    obtain ⟨d, h1, h2⟩ := kd_get (i := i) t (by simpa using e)
    exact ⟨d, by simpa using h1, h2⟩
end DL
namespace DL
open PySem PySem.Spec PyProof.Rows L2
end DL
namespace DL
open PySem PySem.Spec PyProof.Rows L2
variable [TabC]
/-- rows that nobody else holds become data -/
theorem freezeAll {c : Cc} {H : Hp} {σ : L2.St} {ρ : Rho} {fp : Nat → List Addr} : ∀ (bs : List Addr) (dss : List (List D)) (F : Hp), bs.Nodup → (∀ b ∈ bs, F b = none ∧ c.B b = none ∧ ∀ (i : Nat) (w : Ow), ρ[i]? = some (.own w) → b ∉ fp i) →
    Paired (fun b ds => ∃ vs, H b = some (.lst vs) ∧ DxAll c.K F vs ds) bs dss → SimF c F H σ ρ fp → ∃ F', Same F F' ∧ SimF c F' H σ ρ fp ∧ (∀ x, x ∉ bs → F' x = F x) ∧ DxAll c.K F' (bs.map V.ref) (dss.map .list)
  | [], _, F, _, _, .nil, s => ⟨F, Same.refl _, s, fun _ _ => rfl, .nil⟩
  | b :: bs, ds :: dss, F, nd, h, .cons ⟨vs, h1, h2⟩ t, s => by
    obtain ⟨nb, nd'⟩ := List.nodup_cons.mp nd
    obtain ⟨k1, k2, k3⟩ := h b List.mem_cons_self
    have e1 : Same F (upd F b (.lst vs)) := sameNew k1
    have s1 := s.freeze h1 k2 k3 k1 (s.ti.noLam (fun u e => by rw [h1] at e; cases e; exact notLst))
    obtain ⟨F', e2, s2, o2, d2⟩ := freezeAll bs dss (upd F b (.lst vs)) nd' (fun b' m => by
      obtain ⟨j1, j2, j3⟩ := h b' (List.mem_cons_of_mem _ m)
      exact ⟨by rw [upd_ne (fun z => nb (by rw [← z]; exact m))]; exact j1, j2, j3⟩) (pairedMap t fun z y _ ⟨us, q1, q2⟩ => ⟨us, q1, dpAllUp e1 q2⟩) s1
    refine ⟨F', e1.trans e2, s2, fun x m => ?_, .cons (.lst (.inl (.inl ?_)) (dpAllUp (e1.trans e2) h2)) d2⟩
    · rw [o2 x (fun z => m (List.mem_cons_of_mem _ z)), upd_ne (fun z => m (by rw [z]; exact List.mem_cons_self))]
    · rw [o2 b nb]
      exact upd_same
/-- new rows become data -/
theorem ed_ofWl {g : Gm} {te : TE} {ρ ρ1 : Rho} {dss : List (List D)} (h : EvW g te ρ (.lls dss) ρ1) : EvD g te ρ (.list (dss.map .list)) ρ1 := fun c F H σ k s Q q => h c F H σ k s _ fun a F' H' ⟨f, fp, s', hr, hf, no⟩ e => by
  obtain ⟨bs, rfl, nd, h1, h2⟩ := hr
  obtain ⟨na, nd'⟩ := List.nodup_cons.mp nd
  obtain ⟨F2, e2, s2, o2, d2⟩ := freezeAll bs dss F' nd' (fun b m => by
    obtain ⟨j1, j2, j3⟩ := hf b (List.mem_cons_of_mem _ m)
    exact ⟨j1, j3, fun i w q z => no i w b q (List.mem_cons_of_mem _ m) z⟩) h2 s'
  obtain ⟨k1, k2, k3⟩ := hf a List.mem_cons_self
  have k1' : F2 a = none := by rw [o2 a na]; exact k1
  have e3 : Same F2 (upd F2 a (.lst (bs.map V.ref))) := sameNew k1'
  exact q _ _ H' ⟨fp, s2.freeze h1 k3 (fun i w z m => no i w a z List.mem_cons_self m) k1' (s2.ti.noLam (fun u e => by rw [h1] at e; cases e; exact notLst))⟩ (e.trans (e2.trans e3)) (.lst (.inl (.inl upd_same)) (dpAllUp e3 d2))
end DL
namespace DL
open PySem PySem.Spec PyProof.Rows L2
variable [TabC]
structure FnG (P : Program) (w : World) (K : PySem.W.Frag) (mg : Str → Option Value) (base : Heap) (C : CXT) (k : Nat) (f : Addr) (fd : FuncData) (ps : List Str) (sp : Sp) : Prop where
  ar : ∀ vs H Q E, sp vs H Q E → vs.length = ps.length
  go : ∀ A : Around, A.guards = some [] → Room k A → ∀ (o : List PySem.Env) (s : Shared) (H : Hp) (args : Args) (us : List Value) (vs : List V) (Q : VK) (E : XK),
    Env0 P w K mg base A o s H → BindsTo s fd args (ps.zip us) → Vals vs us → sp vs H Q E → codeAny (model P w) A (.call (.ref f) args) (CR C o P w H s Q E) s
section
variable {P : Program} {w : World} {K : PySem.W.Frag} {mg : Str → Option Value} {base : Heap} {C : CXT} {k : Nat} {f : Addr} {fd : FuncData} {ps : List Str} {sp : Sp}
theorem def_G {x qual : Str} {st : Stmt} {N : List Str} (Fn : Fun K x qual st f fd) (S : FnScope N ps (defScope st)) (ar : ∀ vs H Q E, sp vs H Q E → vs.length = ps.length)
    (hb : ∀ (cdv : Value) (A : Around) (o : List PySem.Env) (s : Shared) (H : Hp) (vs : List V) (Q : VK) (E : XK), A.guards = some [] → Room k (A.deeper (envOfC qual (defScope st) s.heap.objs.size f cdv)) → sp vs H Q E →
      ∃ t, PSs (cxOf C P w K mg base N qual (defScope st) f cdv A o s H E) (defBody st) t ∧ t { nx := fun _ H' => Q .non H', rt := Q } (start N vs) H) :
    FnG P w K mg base C (k + 1) f fd ps sp := by
  obtain ⟨oc, od, kV, doc, pm, an, cdv, ct, osl, rfl, lk, hcd⟩ := Fn.ex
  constructor
  · exact ar
  intro A gA hr o s H args us vs Q E e0 bd rv hs
  have kept := fun b o e => (e0.bs b o e).1
  have inK : K.In s.heap := e0.mod.kin.keeps kept
  refine codeAny_call_function hr.depth (inK _ _ lk) rfl S.co S.gen rfl (PySem.W.codeRec_of inK hcd) (bd _ _ _ _ ?_)
  refine wpAny_newFunctionEnv_cells S.kind ?_ ?_
  · rintro ⟨n, v⟩ m
    cases S.par n (List.of_mem_zip m).1 with
    | inl q => exact Or.inl q
    | inr q => exact Or.inr ⟨q, PySem.W.cellsFrom_some _ _ _ (Or.inl q)⟩
  · rintro env rfl s1 x
    refine ⟨(e0.mod.nolimit.keeps kept).keeps x.toInCall.keep, codeAny_func ?_⟩
    obtain ⟨t, ht, hq⟩ := hb cdv A o s H vs Q E gA (hr.deeper _) hs
    refine wpAny_mono (ht.run [] s1 (start N vs) H _ (inv_start S hr.hd e0 (ar _ _ _ _ hs) rv x) hq) ?_ (fun _ _ z => z)
    intro fl s' z
    cases fl with
    | brk => obtain ⟨_, _, _, no⟩ := z; exact no.elim
    | cont => obtain ⟨_, _, _, no⟩ := z; exact no.elim
    | next =>
      obtain ⟨σ', H', J, q⟩ := z
      exact ⟨.non, H', J.os, J.bare, J.base, J.hok, rfl, q⟩
    | ret u =>
      obtain ⟨v, σ', H', J, r, q⟩ := z
      exact ⟨v, H', J.os, J.bare, J.base, J.hok, r, q⟩
end
section
variable {X : Cx} {C : CXT} {k : Nat} {f : Addr} {fd : FuncData} {ps : List Str} {sp : Sp} {dvs : List V} {ds : List Value} {E : XK} {x : Str} {p pos : Pos} {e : Expr} {es : List Expr} {t : TA}
/-- f(e, ..) of such a def -/
theorem pe_callG (F : FnG X.prog X.w X.K X.mg X.base C k f fd ps sp) (gA : X.A.guards = some []) (hr : Room k X.A) (hg : Gl X x) (hm : X.mg x = some (.ref f)) (hk : PySem.W.keepIn X.K (.ref f) = true) (hb : Binds X.K fd ps ds) (hd : Vals dvs ds) (hx : Passes C X E)
    (ha : PA X (e :: es) t) (h1 : (x == ("__debug__" : Str)) = false := by decide) (h2 : starEach (e :: es) X.env = (false, eval e X.env) :: starEach es X.env := by rfl) (h3 : (backTo pos (starEach es X.env)).any (·.1) = false := by rfl) :
    PE X (.Call (.Name x p) (e :: es) [] pos) (tCall sp dvs E t) := by
  constructor
  intro pins s σ H Q I h
  apply wpAny_Call_Name_kw
  refine ld_glob I hg hm ?_ h1
  apply PySem.W.callWith_K (h₀ := X.base) I.ok.mod.kin hk ?_ h2 h3
  refine thn (ha.run pos pins s σ H _ I h) ?_
  rintro us s1 ⟨vs, H1, J, r, q⟩
  refine ⟨J.kIn, ?_⟩
  have rr := r.append hd
  have ll : (us ++ ds).length = ps.length := rr.length.symm.trans (F.ar _ _ _ _ q)
  apply wpAny_call
  refine codeAny_mono (F.go X.A gA hr X.stack s1 H1 ⟨us, []⟩ (us ++ ds) (vs ++ dvs) Q E J.env0 (hb s1 us J.kIn ll) rr q) ?_
  intro out s' z
  cases out with
  | error er => exact hx pins σ H1 s1 er s' J z
  | ok fl =>
    cases fl with
    | ret u => exact J.after z
    | next => exact z.elim
    | brk => exact z.elim
    | cont => exact z.elim
end
end DL
namespace DL
open PySem PySem.Spec PyProof.Rows L2
end DL
namespace DL
open PySem PySem.Spec PyProof.Rows L2
variable [TabC]
def rReprD (K : PySem.W.Frag) : List V → Hp → VK → Prop := fun xs H Q => ∃ (a : Addr) (d : D), xs = [.ref a] ∧ Dx K H (.ref a) d ∧ d.showable = true ∧ d.hasDict = false ∧ d.depth ≤ 64 ∧ d.shown.length ≤ sizeLine ∧ Q (.str d.shown) H
theorem rc_repr {K : PySem.W.Frag} {d : D} (hl : (∃ ds, d = .list ds) ∨ ∃ ds, d = .tuple ds) (h1 : d.showable = true) (h2 : d.hasDict = false) (h3 : d.depth ≤ 64) (h4 : d.shown.length ≤ sizeLine) : RCD K (rReprD K) [d] (.str d.shown) := fun F H xs Q f a q => by
  obtain ⟨v, rfl, a1⟩ := a.one
  have x := a1.dp f
  have : ∃ b, v = .ref b := by
    rcases hl with ⟨ds, rfl⟩ | ⟨ds, rfl⟩
    · cases x with
      | lst h _ => exact ⟨_, rfl⟩
    · cases x with
      | tup h _ => exact ⟨_, rfl⟩
  obtain ⟨b, rfl⟩ := this
  exact ⟨b, d, rfl, x, h1, h2, h3, h4, q _ F H (.at (.str _))⟩
end DL
namespace DL
open PySem PySem.Spec PyProof.Rows L2
variable [TabC]
section
variable {P : Program} {w : World} {K : PySem.W.Frag} {mg : Str → Option Value} {base : Heap} {k : Nat} {f : Addr} {fd : FuncData} {N ps : List Str} {x qual : Str} {st : Stmt}
theorem def_DG {R : List D → RetV → Prop} (Fn : Fun K x qual st f fd) (S : FnScope N ps (defScope st)) (len : ∀ ds r, R ds r → ds.length = ps.length) {t : TS}
    (ht : ∀ (cdv : Value) (A : Around) (outer : List PySem.Env) (s : Shared) (H : Hp) (E : XK), A.guards = some [] → Room k (A.deeper (envOfC qual (defScope st) s.heap.objs.size f cdv)) → PSs (cxOf CX0 P w K mg base N qual (defScope st) f cdv A outer s H E).nox (defBody st) t)
    (hv : ∀ ds r, R ds r → Sv (gm K []) t (rho0 N (ds.map .dat)) (RetP r)) : FnG P w K mg base CX0 (k + 1) f fd ps (spD R K) := by
  refine def_G Fn S (fun vs H Q E h => ?_) (fun cdv A outer s H vs Q E gA hr h => ?_)
  · obtain ⟨F, ds, r, _, h1, h2, _⟩ := h
    rw [dpAllLen h1]
    exact len ds r h2
  · obtain ⟨F, ds, r, e, h1, h2, q⟩ := h
    exact ⟨t, (ht cdv A outer s H E gA hr).nox, body_D e h1 (hv ds r h2) q⟩
end
section
variable {g : Gm} {to te ti : TE} {tr : TA} {ρ ρ1 ρ2 : Rho} {d z : D} {As : List Arg} {ds ds0 : List D} {i : Nat} {P : Out → Prop}
/-- o.m(..), o data that is a list or a text -/
theorem ed_bm {T : String} {r : V → List V → Hp → VK → Prop} (ho : EvD g to ρ d ρ1) (ha : EvA g tr ρ1 As ρ2) (hT : TyD T d) (hr : RMD g.K r d ds z) (dA : dens ρ2 As = some ds := by rfl) : EvD g (tBM g.K T r to tr) ρ z ρ2 := fun c F H σ k s Q q =>
  ho c F H σ k s _ fun v F1 H1 s1 e1 x => by
    have kk : c.K = g.K := k.1
    refine ⟨tyD_v s1.fh (.inl (by rw [← kk]; exact x)) hT, ha c F1 H1 σ k s1 _ fun vs F2 H2 s2 e2 h2 => ?_⟩
    have o2 := ArgsAt.opds s2 h2 dA
    rw [kk] at o2
    refine hr F2 H2 v vs Q s2.fh (.inl (by rw [← kk]; exact dpUp e2 x)) o2 fun u F3 H3 rs => ?_
    rw [← kk] at rs
    obtain ⟨s3, e3, q3⟩ := rs.sim s2
    exact q u F3 H3 s3 (e1.trans (e2.trans e3)) q3
/-- t.m(..), t a tuple -/
theorem ed_bmX {r : V → List V → Hp → VK → Prop} {es : List D} (ho : EvD g to ρ (.tuple es) ρ1) (ha : EvA g tr ρ1 As ρ2) (hr : RMD g.K r (.tuple es) ds z) (dA : dens ρ2 As = some ds := by rfl) : EvD g (tBMX g.K r to tr) ρ z ρ2 := fun c F H σ k s Q q =>
  ho c F H σ k s _ fun v F1 H1 s1 e1 x => by
    have kk : c.K = g.K := k.1
    rw [kk] at x
    obtain ⟨a, xs, rfl, tx, _⟩ := Opd.tupX s1.fh (.inl x)
    refine ⟨⟨a, xs, rfl, tx⟩, ha c F1 H1 σ k s1 _ fun vs F2 H2 s2 e2 h2 => ?_⟩
    have o2 := ArgsAt.opds s2 h2 dA
    rw [kk] at o2
    refine hr F2 H2 (.ref a) vs Q s2.fh (.inl (dpUp e2 x)) o2 fun u F3 H3 rs => ?_
    rw [← kk] at rs
    obtain ⟨s3, e3, q3⟩ := rs.sim s2
    exact q u F3 H3 s3 (e1.trans (e2.trans e3)) q3
/-- x.pop(e), x an own list -/
theorem ed_popAt {n : Int} {j : Nat} (h0 : ρ[i]? = some (.own (.lst ds0))) (hi : EvD g ti ρ (.int n) ρ1) (h1 : ρ1[i]? = some (.own (.lst ds))) (hb : -(2 ^ 63) ≤ n ∧ n < 2 ^ 63) (hj : seqIndex? n ds.length = some j) (hd : ds[j]? = some d) :
    EvD g (tBM g.K "list" rPopAt (tVar i) (tCons ti tNil)) ρ d (ρ1.set i (.own (.lst (ds.eraseIdx j)))) := fun c F H σ k s Q q => by
  obtain ⟨a, vs, e1, e2, e3, e4⟩ := s.lstAt h0
  refine ⟨.ref a, e1, .inl ⟨rfl, vs, .inl (.inl e2)⟩, hi c F H σ k s _ fun v F1 H1 s1 q1 x => ?_⟩
  cases x
  obtain ⟨b, ws, f1, f2, f3, f4⟩ := s1.lstAt h1
  have := some_inj2 e1 f1
  subst this
  obtain ⟨y, y1, y2⟩ := dpAllGet f4 hd
  refine ⟨a, ws, n, j, y, rfl, rfl, f2, hb.1, hb.2, by rw [dpAllLen f4]; exact hj, y1, ?_⟩
  exact q y F1 _ (s1.setLst h1 f1 (dpAllErase j f4)) q1 y2
where
  dpAllErase {K : PySem.W.Frag} {F : Hp} : ∀ (j : Nat) {vs : List V} {ds : List D}, DxAll K F vs ds → DxAll K F (vs.eraseIdx j) (ds.eraseIdx j)
    | _, _, _, .nil => .nil
    | 0, _, _, .cons _ t => t
    | j + 1, _, _, .cons a t => .cons a (dpAllErase j t)
end
section
variable {K : PySem.W.Frag} {d z : D} {ds : List D}
/-- l.index(x), data of any depth -/
theorem rm_index {j : Nat} (h1 : SeqAt.shaped (.list ds) = true) (h2 : SeqAt.shaped d = true) (h3 : ds[j]? = some z) (h4 : PyData.eqv z d = true) (h5 : ∀ (m : Nat) (z' : PyData), m < j → ds[m]? = some z' → PyData.eqv z' d = false) :
    RMD K (rIndexD K) (.list ds) [d] (.int (j : Nat)) := fun F H x xs Q f a b q => by
  obtain ⟨v, rfl, b1⟩ := b.one
  obtain ⟨p, vs, rfl, k1, k2⟩ := a.list f
  exact ⟨p, v, d, ds, j, z, rfl, rfl, (a.dp f).old (noDct h1), (b1.dp f).old (noDct h2), h1, h2, h3, h4, h5, q _ F H (.at (.int _))⟩
def rTIx (K : PySem.W.Frag) : V → List V → Hp → VK → Prop := fun x xs H Q => ∃ (p : Addr) (ys : List Str) (z : Str) (j : Nat), x = V.ref p ∧ xs = [.str z] ∧ SqT K H p (ys.map V.str) ∧ ys[j]? = some z ∧ (∀ m, m < j → ys[m]? ≠ some z) ∧ Q (.int (j : Nat)) H
theorem rm_tix {ys : List Str} {y : Str} {j : Nat} (h1 : ys[j]? = some y) (h2 : ∀ m, m < j → ys[m]? ≠ some y) : RMD K (rTIx K) (.tuple (ys.map .str)) [.str y] (.int (j : Nat)) := fun F H x xs Q f a b q => by
  obtain ⟨v, rfl, b1⟩ := b.one
  obtain ⟨p, vs, rfl, k1, k2⟩ := a.tup f
  have e := dp_strs k2
  subst e
  exact ⟨p, ys, y, j, rfl, by rw [b1.str], k1, h1, h2, q _ F H (.at (.int _))⟩
/-- sorted(l), ints -/
theorem rc_sorted {ns zs : List Int} (h : ∀ ns' : List Int, ns'.Perm ns → ns'.Pairwise (· ≤ ·) → ns' = zs) : RCN K (rSortedI K) [.list (ns.map .int)] (zs.map .int) := fun F H xs Q f a q => by
  obtain ⟨v, rfl, a1⟩ := a.one
  obtain ⟨p, vs, rfl, k1, k2⟩ := a1.list f
  have e := dp_ints k2
  subst e
  refine ⟨p, ns, rfl, k1, fun ns' l h1 h2 hl => ?_⟩
  rw [h ns' h1 h2]
  exact q l _ hl (dpInts zs)
end
theorem dp_rg {K : PySem.W.Frag} {F : Hp} {a b : Int} : DxAll K F (rgV a b) (((List.range (b - a).toNat).map fun i => a + (i : Nat)).map .int) := by
  unfold rgV
  have : ((List.range (b - a).toNat).map fun i => V.int (a + (i : Nat))) = ((List.range (b - a).toNat).map fun i => a + (i : Nat)).map V.int := by rw [List.map_map]; rfl
  rw [this]
  exact dpInts _
theorem en_rg1 {g : Gm} {te : TE} {ρ ρ1 : Rho} {n : Int} (h : EvD g te ρ (.int n) ρ1) (hn : RgOk 0 n) : EvN g (tLstRg (tRg1 te)) ρ (((List.range (n - 0).toNat).map fun i => (0 : Int) + (i : Nat)).map .int) ρ1 := fun c F H σ k s Q q =>
  h c F H σ k s _ fun v F1 H1 s1 e1 x => by
    cases x
    exact ⟨n, rfl, hn, fun p hp => q p _ F1 H1 s1 e1 hp dp_rg⟩
end DL
namespace DL
open PySem PySem.Spec PyProof.Rows L2
variable [TabC]
theorem units70 {A : Around} {k : Nat} (hr : Room k A) : A.units + 70 < cLine := by have := hr.un; omega
def tTupRgX (te : L2.St → Hp → (Int → Int → Hp → Prop) → Prop) : TE := fun σ H Q => te σ H fun a b H1 => RgOk a b ∧ NewT H1 Q (rgV a b)
theorem ed_tupRg1 {g : Gm} {te : TE} {ρ ρ1 : Rho} {n : Int} (h : EvD g te ρ (.int n) ρ1) (hn : RgOk 0 n) : EvD g (tTupRgX (tRg1 te)) ρ (.tuple (((List.range (n - 0).toNat).map fun i => (0 : Int) + (i : Nat)).map .int)) ρ1 := fun c F H σ k s Q q =>
  h c F H σ k s _ fun v F1 H1 s1 e1 x => by
    cases x
    refine ⟨n, rfl, hn, fun p o hp ho => ?_⟩
    obtain ⟨s3, e3, q3⟩ := (Res.new hp ho dp_rg : Res c.K F1 H1 _ _ _ _).sim s1
    exact q _ _ _ s3 (e1.trans e3) q3
def uRepr (K : PySem.W.Frag) : List V → Hp → VK → Prop := fun xs H Q => rReprD K xs H Q ∨ ∃ i : Int, xs = [.int i] ∧ i.natAbs.log2 < 1920 ∧ Q (.str (toString i)) H
theorem rc_uReprD {K : PySem.W.Frag} {d : D} (hl : (∃ ds, d = .list ds) ∨ ∃ ds, d = .tuple ds) (h1 : d.showable = true) (h2 : d.hasDict = false) (h3 : d.depth ≤ 64) (h4 : d.shown.length ≤ sizeLine) : RCD K (uRepr K) [d] (.str d.shown) :=
  fun F H xs Q f a q => .inl (rc_repr hl h1 h2 h3 h4 F H xs Q f a q)
theorem rc_uReprI {K : PySem.W.Frag} {i : Int} (h : i.natAbs.log2 < 1920) : RCD K (uRepr K) [.int i] (.str (toString i)) := fun F H xs Q f a q => by
  obtain ⟨v, rfl, a1⟩ := a.one
  exact .inr ⟨i, by rw [a1.int], h, q _ F H (.at (.str _))⟩
theorem ed_setd {g : Gm} {ty tx : TE} {ρ ρ1 ρ2 : Rho} {i : Nat} {k : Key} {d : D} {kvs kvs0 : List (Key × D)} (h0 : ρ[i]? = some (.own (.dK kvs0))) (hk : EvD g ty ρ (keyOf k) ρ1) (hd : EvD g tx ρ1 d ρ2) (h1 : ρ2[i]? = some (.own (.dK kvs))) (hz : kvs.length < sizeLine) :
    EvD g (tDSetd (tVar i) ty tx) ρ ((valD kvs k).getD d) (ρ2.set i (.own (.dK (if (valD kvs k).isSome then kvs else putD kvs k d)))) := fun c F H σ kk s Q q => by
  obtain ⟨a, xs, f1, f2, f3, _⟩ := s.dkAt h0
  refine ⟨.ref a, f1, a, rfl, .inl ⟨_, .inl f2⟩, hk c F H σ kk s _ fun v F1 H1 s1 e1 x => hd c F1 H1 σ kk s1 _ fun u F2 H2 s2 e2 y => ?_⟩
  obtain ⟨a', ys, g1, g2, g3, g4⟩ := s2.dkAt h1
  have := some_inj2 f1 g1
  subst this
  refine ⟨ys, k, g2, dp_key x, by rw [kd_len g3]; exact hz, fun v' hv => ?_, fun hv => ?_⟩
  · rcases kd_val k g3 with ⟨z1, z2⟩ | ⟨w, d', z1, z2, z3⟩
    · rw [z1] at hv; cases hv
    · rw [z1] at hv
      cases hv
      rw [z2] at q
      have e : (ρ2.set i (.own (.dK kvs))) = ρ2 := by
        apply List.ext_getElem?
        intro j
        by_cases z : j = i
        · subst z
          rw [List.getElem?_set_self (List.getElem?_eq_some_iff.mp h1).1, h1]
        · rw [List.getElem?_set_ne (Ne.symm z)]
      simp only [Option.isSome_some, if_true, Option.getD_some, e] at q
      exact q _ F2 H2 s2 (e1.trans e2) z3
  · rcases kd_val k g3 with ⟨z1, z2⟩ | ⟨w, d', z1, z2, z3⟩
    · rw [z2] at q
      simp only [Option.isSome_none, Option.getD_none, Bool.false_eq_true, if_false] at q
      exact q _ F2 _ (g4 _ _ ⟨rfl, _, upd_same, kd_put y g3⟩) (e1.trans e2) y
    · rw [z1] at hv; cases hv
def rRepX (K : PySem.W.Frag) : R2 := fun x y H Q => ∃ l k xs, x = .ref l ∧ y = .int k ∧ SqT K H l xs ∧ xs ≠ [] ∧ 2 ≤ k ∧ k ≤ 1000 ∧ xs.length ≤ 1000 ∧ NewT H Q (List.replicate k.toNat xs).flatten
theorem op_repX {X : Cx} : OpR X (binaryOp .Mult) (rRepX X.K) := by
  rintro pins s σ H x y v u Q I rx ry ⟨l, k, xs, rfl, rfl, hT, hne, k2, k3, lx, q⟩
  cases rx
  obtain ⟨t, rfl⟩ := ry
  obtain ⟨its, r, ⟨⟨cls, dd, data, sl⟩, ho, hc, n, hd⟩, _⟩ := I.tuple hT
  simp only at hc hd
  subst hc hd
  have le : its.length = xs.length := r.length.symm
  have nonempty : its.toArray.isEmpty = false := by
    cases its with
    | nil => exact absurd (List.eq_nil_of_length_eq_zero le.symm) hne
    | cons _ _ => rfl
  have bound : k.toNat * xs.length ≤ 1000000 := Nat.le_trans (Nat.mul_le_mul (show k.toNat ≤ 1000 by omega) lx) (by decide)
  have flen : (List.replicate k.toNat its).flatten.length ≤ sizeLine := by
    rw [PyProof.Rows.lm_len_rep_flat, le, sizeLine_eq]
    omega
  have boundI : ((its.toArray.size : Nat) : Int) * k ≤ 1000000 := by
    rw [List.size_toArray, le]
    have : ((xs.length : Nat) : Int) * k ≤ 1000 * k := Int.mul_le_mul_of_nonneg_right (by omega) (by omega)
    omega
  refine wpAny_binaryOp_repeat_ref (T := "tuple") (U := "int") (by decide) ⟨_, ho, rfl⟩ (fun s' => typeIs_int s' k t) noFill_tuple_mul F.fills_int_mul F.slot_int_rmul repeat_tuple F.slot_int_index.lookup ?_
  refine call_meets F.slot_int_rmul (typeIs_int s k t) F.entry_int_rmul (F.args_int_rmul_2 _ _) (int_rmul_tuple k t l its.toArray n dd sl) ⟨ho, rfl, ⟨_, ho, rfl⟩, ?_⟩
  refine call_meets F.slot_tuple_mul ⟨_, ho, rfl⟩ F.entry_tuple_mul (F.args_tuple_mul_2 _ _) (tuple_mulW l its.toArray n dd sl k t ?_ ?_ ?_ (by omega) ?_ (by rw [size_rep, List.size_toArray]; exact flen)) ⟨ho, ?_⟩
  · rw [decide_eq_false (by omega), decide_eq_false (by omega)]; rfl
  · rw [nonempty, Bool.false_or]; exact beq_eq_false_iff_ne.mpr (by omega)
  · rw [nonempty, Bool.or_false]; exact decide_eq_false (by omega)
  · unfold Builtin.Tuple.tupleTooMany
    rw [sizeLine_eq]
    exact decide_eq_false (by omega)
  · rw [size_rep]
    exact Inv.laidE (Q := Q) I (r.rep k.toNat) (by rw [PyProof.Rows.lm_len_rep_flat, sizeLine_eq]; omega) q
theorem r2_rep {K : PySem.W.Frag} {ds : List D} {n : Int} (h : ds ≠ []) (h0 : 2 ≤ n) (h1 : n ≤ 1000) (h2 : ds.length ≤ 1000) : R2D K (rRepX K) (.tuple ds) (.int n) (.tuple (List.replicate n.toNat ds).flatten) := fun F H x y Q f a b q => by
  obtain ⟨p, vs, rfl, k1, k2⟩ := a.tup f
  have hl := dpAllLen k2
  refine ⟨p, n, vs, rfl, b.int, k1, fun z => h ?_, h0, h1, by omega, fun l o hl' ho => q _ _ _ (.new hl' ho (rep n.toNat k2))⟩
  rw [z] at hl
  exact List.eq_nil_of_length_eq_zero hl.symm
where
  rep {K : PySem.W.Frag} {F : Hp} : ∀ (m : Nat) {vs : List V} {ds : List D}, DxAll K F vs ds → DxAll K F (List.replicate m vs).flatten (List.replicate m ds).flatten
    | 0, _, _, _ => .nil
    | m + 1, _, _, h => by
      rw [List.replicate_succ, List.replicate_succ, List.flatten_cons, List.flatten_cons]
      exact dpAllApp h (rep m h)
end DL
namespace DL
open PySem PySem.Spec PyProof.Rows L2
variable [TabC]
def uIn (K : PySem.W.Frag) : R2 := fun x y H Q => rIn K false x y H Q ∨ rInD K x y H Q
def uNotIn (K : PySem.W.Frag) : R2 := fun x y H Q => rIn K true x y H Q ∨ rNotInD K x y H Q
theorem op_uNotIn {X : Cx} (hu : X.A.units + 65 < cLine) : OpR X (compareOp .NotIn) (uNotIn X.K) := OpR.or op_notIn_seq (op_notInD hu)
section
variable {K : PySem.W.Frag} {y : Str} {ys : List Str} {d : D} {ds : List D}
theorem ri_dat (h1 : SeqAt.shaped d = true) (h2 : SeqAt.shaped (.list ds) = true) : R2D K (uIn K) d (.list ds) (.bool (ds.any fun z => PyData.eqv z d)) := fun F H x l Q f a b q => .inr (r2_inD h1 h2 F H x l Q f a b q)
theorem rn_dat (h1 : SeqAt.shaped d = true) (h2 : SeqAt.shaped (.list ds) = true) : R2D K (uNotIn K) d (.list ds) (.bool (!ds.any fun z => PyData.eqv z d)) := fun F H x l Q f a b q => .inr (r2_notInD h1 h2 F H x l Q f a b q)
end
end DL
namespace DL
open PySem PySem.Spec PyProof.Rows L2
variable [TabC]
variable {K : PySem.W.Frag} {g : Gm}
def isS : D → Bool
  | .str _ => true
  | _ => false
def isI : D → Bool
  | .int _ => true
  | _ => false
/-- a thing that cannot be a list of texts -/
def apartS : D → Bool
  | .int _ => true
  | .list (.int _ :: ds) => ds.all isI
  | _ => false
def atomD : D → Bool
  | .int _ => true
  | .str _ => true
  | .bool _ => true
  | .none => true
  | _ => false
theorem dxAtom {F F' : Hp} {v : V} {d : D} (h : Dx K F v d) (a : atomD d = true) : Dx K F' v d := by
  cases h with
  | non => exact .non
  | bl b => exact .bl b
  | int i => exact .int i
  | str x => exact .str x
  | lst _ _ => cases a
  | tup _ _ => cases a
  | dct _ _ => cases a
  | fn _ => cases a
theorem dxInts {F F' : Hp} {vs : List V} {ds : List D} (h : DxAll K F vs ds) : ds.all isI = true → DxAll K F' vs ds := by
  intro a
  induction ds generalizing vs with
  | nil => cases h; exact .nil
  | cons d ds ih =>
    cases h with
    | cons x t =>
      rw [List.all_cons, Bool.and_eq_true] at a
      refine .cons ?_ (ih t a.2)
      cases x with
      | int i => exact .int i
      | non => cases a.1
      | bl b => cases a.1
      | str x => cases a.1
      | lst _ _ => cases a.1
      | tup _ _ => cases a.1
      | dct _ _ => cases a.1
      | fn _ => cases a.1
theorem dxApart {F F' F2 : Hp} {aj : Addr} {vs : List V} {ds : List D} (hj : F' aj = some (.lst vs)) (hs : DxAll K F vs ds) (hd : ds.all isS = true) (e : ∀ b, b ≠ aj → F2 b = F' b) {v : V} {d : D} (h : Dx K F' v d) (a : apartS d = true) : Dx K F2 v d := by
  cases h with
  | non => cases a
  | bl b => cases a
  | int i => exact .int i
  | str x => cases a
  | tup _ _ => cases a
  | dct _ _ => cases a
  | fn _ => cases a
  | lst h1 h2 =>
    rename_i b xs es
    cases es with
    | nil => cases a
    | cons d es =>
      cases d with
      | int i =>
        have all : (PyData.int i :: es).all isI = true := by simpa [apartS, isI] using a
        refine .lst ?_ (dxInts h2 all)
        by_cases z : b = aj
        · subst z
          rcases h1 with h1 | h1
          · exfalso
            have ex : xs = vs := by
              rcases h1 with h1 | ⟨o, h1⟩
              · rw [hj] at h1; cases h1; rfl
              · rw [hj] at h1; cases h1
            subst ex
            cases h2 with
            | cons x t =>
              cases x
              cases hs with
              | cons y t2 =>
                cases y
                rw [List.all_cons] at hd
                cases hd
          · exact .inr h1
        · rcases h1 with h1 | h1
          · refine .inl ?_
            rcases h1 with h1 | ⟨o, h1⟩
            · exact .inl (by rw [e b z]; exact h1)
            · exact .inr ⟨o, by rw [e b z]; exact h1⟩
          · exact .inr h1
      | _ => cases a
theorem dxAparts {F F' F2 : Hp} {aj : Addr} {vs : List V} {ds : List D} (hj : F' aj = some (.lst vs)) (hs : DxAll K F vs ds) (hd : ds.all isS = true) (e : ∀ b, b ≠ aj → F2 b = F' b) : ∀ {xs : List V} {es : List D}, DxAll K F' xs es → es.all apartS = true → DxAll K F2 xs es
  | _, _, .nil, _ => .nil
  | _, _, .cons x t, a => by
    rw [List.all_cons, Bool.and_eq_true] at a
    exact .cons (dxApart hj hs hd e x a.1) (dxAparts hj hs hd e t a.2)
theorem ed_callL {R : List D → List D → RetV → List D → Prop} {ρ : Rho} {i j : Nat} {st st' ds : List D} {d : D} {E : XK} (he : ρ[i]? = some (.own (.lst st))) (hj : ρ[j]? = some (.own (.lst ds))) (ij : i ≠ j) (hR : R st [.list ds] (.dat d) st') (hS : ds.all isS = true) (hA : st'.all apartS = true) (hd : atomD d = true) :
    EvD g (tCall (spS R g.K) [] E (tCons (tVar i) (tCons (tVar j) tNil))) ρ d (ρ.set i (.own (.lst st'))) := fun c F H σ k s Q q => by
  have kk : c.K = g.K := k.1
  obtain ⟨fp, sf⟩ := id s
  obtain ⟨a, f1, f2, ws, f3, f4⟩ := sf.own i _ he
  obtain ⟨b, b1, b2, vs, b3, b4⟩ := sf.own j _ hj
  have ab : a ≠ b := fun e => ij (sf.sep i j _ _ a he hj (by rw [f2]; simp) (by rw [b2, e]; simp))
  have fa : F a = none := (sf.ownF i _ a he (by rw [f2]; simp)).1
  have fb : F b = none := (sf.ownF j _ b hj (by rw [b2]; simp)).1
  have s1 : Same F (upd F b (.lst vs)) := fun x o z => by rw [upd_ne (ne_of_none z fb)]; exact z
  have s2 : Same (upd F b (.lst vs)) H := fun x o z => by
    by_cases y : x = b
    · subst y; rw [upd_same] at z; cases z; exact b3
    · rw [upd_ne y] at z; exact sf.fh x o z
  refine ⟨_, f1, _, b1, ?_⟩
  show spS R g.K ([V.ref a, V.ref b] ++ []) H Q E
  rw [List.append_nil, ← kk]
  have nlb : ¬ lamW b := sf.noLam hj (by rw [b2]; simp)
  refine ⟨upd F b (.lst vs), a, ws, [.ref b], st, [.list ds], .dat d, st', rfl, ⟨s2, sf.tabs, sf.ti, fun x l => (upd_ne fun z => nlb (by rw [← z]; exact l)).trans (sf.fl x l)⟩, f3, by rw [upd_ne ab]; exact fa, dpAllUp s1 f4, .cons (.lst (.inl (.inl upd_same)) (dpAllUp s1 b4)) .nil, hR, fun v F' H' t r => ?_⟩
  classical
  let F2 : Hp := fun x => if x = b then none else F' x
  have hF2 : ∀ x, x ≠ b → F2 x = F' x := fun x z => by simp only [F2, if_neg z]
  have hb : F' b = some (.lst vs) := t.f0 b _ upd_same
  have s3 : Same F F2 := fun x o z => by
    have y : x ≠ b := ne_of_none z fb
    rw [hF2 x y]
    exact t.f0 x o (s1 x o z)
  have t2 : Sim ⟨c.K, [(0, a)], (· = a), F, H⟩ F2 H' [some (.ref a)] [.own (.lst st')] := by
    obtain ⟨fp', t⟩ := t
    refine ⟨fp', s3, fun x o z => ?_, t.keep, t.dom, fun x z y => ?_, t.par, fun i d q => ?_, fun i w q => ?_, fun i w x q m => ?_, t.sep, t.len, t.wp, t.pb, t.tb, t.tw, t.tl, t.ti, fun x l => by
      by_cases y : x = b
      · subst y; simp [F2]
      · rw [hF2 x y]; exact t.fl x l⟩
    · by_cases y : x = b
      · subst y; simp [F2] at z
      · rw [hF2 x y] at z; exact t.fh x o z
    · by_cases y' : x = b
      · subst y'; simp [F2]
      · rw [hF2 x y']; exact t.av x z (by show upd F b (.lst vs) x = none; rw [upd_ne y']; exact y)
    · cases i with
      | zero => cases q
      | succ i => cases q
    · obtain ⟨a2, h1, h2⟩ := t.own i w q
      cases i with
      | succ i => cases q
      | zero =>
        cases q
        obtain ⟨h3, xs, h4, h5⟩ := h2
        exact ⟨a2, h1, h3, xs, h4, dxAparts hb b4 hS hF2 h5 hA⟩
    · obtain ⟨h1, h2, h3⟩ := t.ownF i w x q m
      refine ⟨?_, h2, h3⟩
      by_cases y : x = b
      · subst y; simp [F2]
      · rw [hF2 x y]; exact h1
  exact q v F2 H' ⟨fp, sf.afterS he f1 t2⟩ s3 (dxAtom r hd)
end DL
namespace DL
open PySem PySem.Spec PyProof.Rows L2
variable [TabC]
theorem tuple_mulS (l : Addr) (items : Array Value) (n : Nat) (dd : Option Addr) (sl : Array (Option Value)) (x : Int) (u : Tok) (c0 : (decide (x < -(2 ^ 63)) || decide (x ≥ 2 ^ 63)) = false) (c1 : (items.isEmpty || x == 1) = true) :
    Meets (Builtin.«tuple.__mul__» ⟨[.ref l, .int x u], []⟩) (fun _ R s => s.heap.get? l = some { cls := .type "tuple", dict := dd, data := .seq items n, slots := sl } ∧
      R (.ok (.ret (Value.ref l))) s) :=
  .of_wp fun prog w A R s h => by
    obtain ⟨hp, g, d, tk, os⟩ := s
    obtain ⟨hl, h⟩ := h
    have f1 := AutoSeq1.idx_int
    wp_walk using wpAny_loadPart' hl
    refine wpAny_ite_false (decide_eq_false (by rw [c0]; exact Bool.false_ne_true)) ?_
    wp_walk using wpAny_loadPart' hl
    exact ⟨_, rfl, h⟩
theorem tuple_mul0 (l : Addr) (items : Array Value) (n : Nat) (dd : Option Addr) (sl : Array (Option Value)) (x : Int) (u : Tok) (c0 : (decide (x < -(2 ^ 63)) || decide (x ≥ 2 ^ 63)) = false) (c1 : (items.isEmpty || x == 1) = false) (c2 : (decide (x ≤ 0) || items.isEmpty) = true) :
    Meets (Builtin.«tuple.__mul__» ⟨[.ref l, .int x u], []⟩) (fun _ R s => s.heap.get? l = some { cls := .type "tuple", dict := dd, data := .seq items n, slots := sl } ∧
      R (.ok (.ret (Value.ref s.heap.objs.size))) { s with heap := s.heap.push { cls := Value.type "tuple", data := Data.seq #[] }, toks := s.toks }) :=
  .of_wp fun prog w A R s h => by
    obtain ⟨hp, g, d, tk, os⟩ := s
    obtain ⟨hl, h⟩ := h
    have f1 := AutoSeq1.idx_int
    wp_walk using wpAny_loadPart' hl
    repeat (first
      | (refine wpAny_ite_false (decide_eq_false (by rw [c0]; exact Bool.false_ne_true)) ?_; wp_walk using wpAny_loadPart' hl)
      | (refine wpAny_ite_false (decide_eq_false (by rw [c1]; exact Bool.false_ne_true)) ?_; wp_walk using wpAny_loadPart' hl)
      | (refine wpAny_ite_true (decide_eq_true c2) ?_; wp_walk using wpAny_loadPart' hl))
    exact ⟨_, rfl, h⟩
def rRepS (K : PySem.W.Frag) : R2 := fun x y H Q => ∃ l k xs, x = .ref l ∧ y = .int k ∧ TupX K H l xs ∧ -(2 ^ 63) ≤ k ∧ k < 2 ^ 63 ∧ (xs = [] ∨ k = 1) ∧ Q (.ref l) H
def rRep0 (K : PySem.W.Frag) : R2 := fun x y H Q => ∃ l k xs, x = .ref l ∧ y = .int k ∧ SqT K H l xs ∧ -(2 ^ 63) ≤ k ∧ k ≤ 0 ∧ xs ≠ [] ∧ NewT H Q []
theorem op_repS {X : Cx} : OpR X (binaryOp .Mult) (rRepS X.K) := by
  rintro pins s σ H x y v u Q I rx ry ⟨l, k, xs, rfl, rfl, hT, k1, k2, hx, q⟩
  cases rx
  obtain ⟨t, rfl⟩ := ry
  obtain ⟨its, r, ⟨⟨cls, dd, data, sl⟩, ho, hc, n, hd⟩, _⟩ := I.tuple hT.old
  simp only at hc hd
  subst hc hd
  have le : its.length = xs.length := r.length.symm
  refine wpAny_binaryOp_repeat_ref (T := "tuple") (U := "int") (by decide) ⟨_, ho, rfl⟩ (fun s' => typeIs_int s' k t) noFill_tuple_mul F.fills_int_mul F.slot_int_rmul repeat_tuple F.slot_int_index.lookup ?_
  refine call_meets F.slot_int_rmul (typeIs_int s k t) F.entry_int_rmul (F.args_int_rmul_2 _ _) (int_rmul_tuple k t l its.toArray n dd sl) ⟨ho, rfl, ⟨_, ho, rfl⟩, ?_⟩
  refine call_meets F.slot_tuple_mul ⟨_, ho, rfl⟩ F.entry_tuple_mul (F.args_tuple_mul_2 _ _) (tuple_mulS l its.toArray n dd sl k t ?_ ?_) ⟨ho, ?_⟩
  · rw [decide_eq_false (by omega), decide_eq_false (by omega)]; rfl
  · rcases hx with hx | hx
    · subst hx
      cases its with
      | nil => rfl
      | cons _ _ => cases le
    · subst hx; simp
  · exact ⟨.ref l, H, I, rfl, q⟩
theorem op_rep0 {X : Cx} : OpR X (binaryOp .Mult) (rRep0 X.K) := by
  rintro pins s σ H x y v u Q I rx ry ⟨l, k, xs, rfl, rfl, hT, k1, k2, hx, q⟩
  cases rx
  obtain ⟨t, rfl⟩ := ry
  obtain ⟨its, r, ⟨⟨cls, dd, data, sl⟩, ho, hc, n, hd⟩, _⟩ := I.tuple hT
  simp only at hc hd
  subst hc hd
  have le : its.length = xs.length := r.length.symm
  have nonempty : its.toArray.isEmpty = false := by
    cases its with
    | nil => exact absurd (List.eq_nil_of_length_eq_zero le.symm) hx
    | cons _ _ => rfl
  refine wpAny_binaryOp_repeat_ref (T := "tuple") (U := "int") (by decide) ⟨_, ho, rfl⟩ (fun s' => typeIs_int s' k t) noFill_tuple_mul F.fills_int_mul F.slot_int_rmul repeat_tuple F.slot_int_index.lookup ?_
  refine call_meets F.slot_int_rmul (typeIs_int s k t) F.entry_int_rmul (F.args_int_rmul_2 _ _) (int_rmul_tuple k t l its.toArray n dd sl) ⟨ho, rfl, ⟨_, ho, rfl⟩, ?_⟩
  refine call_meets F.slot_tuple_mul ⟨_, ho, rfl⟩ F.entry_tuple_mul (F.args_tuple_mul_2 _ _) (tuple_mul0 l its.toArray n dd sl k t ?_ ?_ ?_) ⟨ho, ?_⟩
  · rw [decide_eq_false (by omega), decide_eq_false (by omega)]; rfl
  · rw [nonempty, Bool.false_or]; exact beq_eq_false_iff_ne.mpr (by omega)
  · rw [decide_eq_true k2]; rfl
  · exact Inv.laidE (Q := Q) I .nil (by decide) q
theorem r2_repS {K : PySem.W.Frag} {ds : List D} {n : Int} (h0 : -(2 ^ 63) ≤ n) (h1 : n < 2 ^ 63) (h2 : ds = [] ∨ n = 1) : R2D K (rRepS K) (.tuple ds) (.int n) (.tuple ds) := fun F H x y Q f a b q => by
  have a' := a.dp f
  obtain ⟨p, vs, rfl, k1, k2⟩ := a.tupX f
  have hl := dpAllLen k2
  refine ⟨p, n, vs, rfl, b.int, k1, h0, h1, h2.imp (fun z => ?_) id, ?_⟩
  · rw [z] at hl
    exact List.eq_nil_of_length_eq_zero hl
  · rcases a with a | ⟨_, _, _, _, z, _⟩
    · exact q _ _ _ (.at a)
    · cases z
theorem r2_rep0 {K : PySem.W.Frag} {ds : List D} {n : Int} (h0 : -(2 ^ 63) ≤ n) (h1 : n ≤ 0) (h2 : ds ≠ []) : R2D K (rRep0 K) (.tuple ds) (.int n) (.tuple []) := fun F H x y Q f a b q => by
  obtain ⟨p, vs, rfl, k1, k2⟩ := a.tup f
  have hl := dpAllLen k2
  refine ⟨p, n, vs, rfl, b.int, k1, h0, h1, fun z => h2 ?_, fun l o hl' ho => q _ _ _ (.new hl' ho .nil)⟩
  rw [z] at hl
  exact List.eq_nil_of_length_eq_zero hl.symm
def rRepL (K : PySem.W.Frag) : R2 := fun x y H Q => ∃ l k xs, x = .ref l ∧ y = .int k ∧ SqL K H l xs ∧ -(2 ^ 63) ≤ k ∧ k < 2 ^ 63 ∧ xs.length * k.toNat ≤ sizeLine ∧ ∀ p, H p = none → Q (.ref p) (upd H p (.lst (List.replicate k.toNat xs).flatten))
theorem op_repL {X : Cx} : OpR X (binaryOp .Mult) (rRepL X.K) := by
  rintro pins s σ H x y v u Q I rx ry ⟨l, k, xs, rfl, rfl, hT, k1, k2, hz, q⟩
  cases rx
  obtain ⟨t, rfl⟩ := ry
  obtain ⟨its, r, ⟨⟨cls, dd, data, sl⟩, n, e, hc, hd, hl⟩, _⟩ := I.list hT
  simp only at hc hd hl
  subst hc hd hl
  have le : its.length = xs.length := r.length.symm
  have hlen : its.toArray.size * k.toNat ≤ sizeLine := by rw [List.size_toArray, le]; exact hz
  have hnew : List.foldl (fun x1 x2 => x1 ++ x2) #[] (List.replicate (if its.toArray.isEmpty = true then 0 else k.toNat) its.toArray) = (List.replicate k.toNat its).flatten.toArray := by
    rw [size_rep]
    cases its with
    | nil => simp
    | cons a r' => rw [if_neg (by simp)]
  refine wpAny_binaryOp_repeat_ref (T := "list") (U := "int") (by decide) ⟨_, e, rfl⟩ (fun s' => typeIs_int s' k t) noFill_list_mul F.fills_int_mul F.slot_int_rmul repeat_list F.slot_int_index.lookup
    (call_meets F.slot_int_rmul (typeIs_int s k t) F.entry_int_rmul (F.args_int_rmul_2 _ _) (lm_int_rmul_list_any k t l its.toArray n none sl)
      ⟨e, rfl, ⟨_, e, rfl⟩, call_meets F.slot_list_mul ⟨_, e, rfl⟩ F.entry_list_mul (F.args_list_mul_2 _ _) (lm_list_mul_any l its.toArray n none sl k t ?_ ?_ ?_) ⟨e, ?_⟩⟩)
  · rw [fitsIndex_both k1 k2]; exact Bool.false_ne_true
  · have : (sizeLine : Nat) ≤ (2 ^ 63 - 1) / 8 := by decide
    omega
  · rw [notLongL hlen]; exact Bool.false_ne_true
  · rw [hnew]
    exact ⟨.ref _, _, I.lnew (t' := s.toks) (r.rep k.toNat) (by rw [PyProof.Rows.lm_len_rep_flat, Nat.mul_comm]; exact (le ▸ hz)), rfl, q _ I.fresh⟩
end DL
namespace DL
open PySem PySem.Spec PyProof.Rows L2
variable [TabC]
variable {K : PySem.W.Frag} {g : Gm} {X : Cx}
def uMin (K : PySem.W.Frag) : List V → Hp → VK → Prop := fun vs H Q => ∃ (a : Addr) (n : Int) (ns : List Int), vs = [.ref a] ∧ (SqL K H a ((n :: ns).map V.int) ∨ SqT K H a ((n :: ns).map V.int)) ∧ Q (.int (ns.foldl min n)) H
theorem rc_minU {n : Int} {ns : List Int} : RCD K (uMin K) [.list ((n :: ns).map .int)] (.int (ns.foldl min n)) := fun F H xs Q f a q => by
  obtain ⟨v, rfl, a1⟩ := a.one
  obtain ⟨p, vs, rfl, h1, k1⟩ := a1.list f
  rw [dp_ints k1] at h1
  exact ⟨p, n, ns, rfl, .inl h1, q _ F H (.at (.int _))⟩
theorem rc_minT {n : Int} {ns : List Int} : RCD K (uMin K) [.tuple ((n :: ns).map .int)] (.int (ns.foldl min n)) := fun F H xs Q f a q => by
  obtain ⟨v, rfl, a1⟩ := a.one
  obtain ⟨p, vs, rfl, h1, k1⟩ := a1.tup f
  rw [dp_ints k1] at h1
  exact ⟨p, n, ns, rfl, .inr h1, q _ F H (.at (.int _))⟩
end DL
namespace DL
open PySem PySem.Spec PyProof.Rows L2
variable [TabC]
variable {K : PySem.W.Frag} {g : Gm} {X : Cx}
def rLtD (K : PySem.W.Frag) : R2 := fun x y H Q => ∃ d e, Dp K H x d ∧ Dp K H y e ∧ PySem.W.alike d e = true ∧ d ≠ .none ∧ min d.depth e.depth ≤ 64 ∧ Q (.bl (PySem.W.dataLt d e)) H
theorem r2_ltD {d e : D} (h1 : PySem.W.alike d e = true) (h2 : d ≠ .none) (h3 : min d.depth e.depth ≤ 64) (k1 : d.hasDict = false) (k2 : e.hasDict = false) : R2D K (rLtD K) d e (.bool (PySem.W.dataLt d e)) := fun F H x y Q f a b q => ⟨d, e, (a.dp f).old k1, (b.dp f).old k2, h1, h2, h3, q _ F H (.at (.bl _))⟩
theorem walk_rngC {F : Hp} {lo c : Int} {n : Nat} : WalkD K F (Itc lo c n) n (fun i => .int (lo + (i : Nat) * c)) := fun F2 H2 e1 e2 =>
  ⟨fun i hi => hi, Nat.le_refl _, fun i x H' hi ⟨e, q⟩ => by
    subst e q
    exact ⟨F2, .at (.int _)⟩⟩
theorem ei_rngN {ta : TA} {ρ ρ1 : Rho} {m n : Int} {A B C : Arg} (h : EvA g ta ρ [A, B, C] ρ1) (hA : A = .d (.int m)) (hB : B = .d (.int n)) (hC : C = .d (.int (-1))) (hb : (-(2 ^ 62) ≤ m ∧ m < 2 ^ 62) ∧ -(2 ^ 62) ≤ n ∧ n < 2 ^ 62) : EvI g (iRng3 ta) ρ (m - n).toNat (fun i => .int (m - i)) ρ1 := fun c F H σ k s R q => h c F H σ k s _ fun vs F1 H1 s1 e1 x => by
  subst hA hB hC
  cases x with
  | cons a t =>
    cases t with
    | cons b t =>
      cases t with
      | cons d t =>
        cases t
        cases a with
        | d a =>
          cases a
          cases b with
          | d b =>
            cases b
            cases d with
            | d d =>
              cases d
              refine ⟨m, n, -1, (m - n).toNat, rfl, RgC.neg hb.1.1 hb.1.2 hb.2.1 hb.2.2, q _ F1 H1 s1 e1 ?_⟩
              have w := walk_rngC (K := c.K) (F := F1) (lo := m) (c := -1) (n := (m - n).toNat)
              have e : (fun i : Nat => PyData.int (m + (i : Nat) * -1)) = fun i : Nat => PyData.int (m - (i : Nat)) := funext fun i => by rw [show m + (i : Int) * -1 = m - (i : Int) by omega]
              rw [e] at w
              exact w
def PureE (g : Gm) (te : TE) (ρ : Rho) (d : D) : Prop := ∀ (c : Cc) (F H : Hp) (σ : L2.St), c.K = g.K → Sim c F H σ ρ → ∀ (H' : Hp) (Q : VK), (∀ v, Dx c.K F v d → Q v H') → te σ H' Q
theorem pure_var {ρ : Rho} {j : Nat} {d : D} (h : ρ[j]? = some (.dat d)) : PureE g (tVar j) ρ d := fun c F H σ k s H' Q q => by
  obtain ⟨v, e, x⟩ := s.dat h
  exact ⟨v, e, q v x⟩
theorem pure_int {ρ : Rho} {i : Int} : PureE g (tC (.int i)) ρ (.int i) := fun c F H σ k s H' Q q => q _ (.int i)
theorem pure_neg {ρ : Rho} {i : Int} : PureE g (tUn (rU fun i => .int (-i)) (tC (.int i))) ρ (.int (-i)) := fun c F H σ k s H' Q q => ⟨i, rfl, q _ (.int _)⟩
theorem kd_key {F : Hp} {v : V} {k : Key} (x : Dx K F v (keyOf k)) : v = kV k := by
  rw [dp_key x]
theorem ew_disp1 {tk : TE} {ρ : Rho} {k : Key} {n : Int} (hk : PureE g tk ρ (keyOf k)) : EvW g (tDisp [(tk, tC (.int n))]) ρ (.dK [(k, .int n)]) ρ := fun c F H σ kk s Q q p hp => by
  obtain ⟨fp, sf⟩ := id s
  refine hk c F H σ kk.1 s (upd H p (.dK [])) _ fun v x => ?_
  show upd H p (.dK []) p = some (.dK []) ∧ _
  refine ⟨upd_same, [(k, .int n)], by rw [kd_key x]; rfl, by simp, ?_⟩
  have hB : c.B p = none := by
    cases z : c.B p with
    | none => rfl
    | some u => exact absurd hp (sf.dom p (by simp [z]))
  have no : ∀ (j : Nat) (w : Ow), ρ[j]? = some (.own w) → p ∉ fp j := fun j w z m => (sf.ownF j w p z m).2.1 hp
  have eu : upd (upd H p (.dK [])) p (.dK (mergeK [] [(k, V.int n)])) = upd H p (.dK (mergeK [] [(k, V.int n)])) := by
    funext b
    unfold upd
    split <;> rfl
  rw [eu]
  refine q p F _ ⟨[p], fp, sf.other (freeF sf.fh hp) hB no (fun u e => by rw [hp] at e; cases e), ⟨rfl, _, upd_same, .cons ⟨rfl, .int n⟩ .nil⟩, fun b m => ?_, fun j w' b z m => ?_⟩ (Same.refl _)
  · have z : b = p := by simpa using m
    subst z
    exact ⟨freeF sf.fh hp, by rw [upd_same]; simp, hB⟩
  · have y : b = p := by simpa using m
    subst y
    exact no j w' z
end DL
namespace DL
open PySem PySem.Spec PyProof.Rows L2
variable [TabC]
section
variable {g : Gm} {t : TA} {ρ ρ1 : Rho} {As : List Arg} {ds : List D} {d : D}
/-- a call, for what it may let out -/
theorem sv_dropEx {R : List D → RetX → Prop} {P : Out → Prop} {C : Addr} (ha : EvA g t ρ As ρ1) (hR : R ds (.exc C)) (hd : datas As = some ds) (h : P (.ex C ρ1)) : Sv g (tDrop (tCall (spX R g.K) [] g.xe t)) ρ P := fun c F H σ D k s p =>
  ha c F H σ k.ok s _ fun vs F1 H1 s1 e1 h1 => by
    have kk : c.K = g.K := k.ok.1
    obtain ⟨fp, sf⟩ := id s1
    rw [List.append_nil, ← kk]
    refine ⟨F1, ds, .exc C, s1.ft, h1.datas hd, hR, fun F' H' t => ?_⟩
    exact p.ex _ F' H' σ C h ⟨fp, sf.after t⟩ (e1.trans t.f0)
end
end DL
namespace DL
open PySem PySem.Spec PyProof.Rows L2
variable [TabC]
variable {g : Gm}
def offH (F : Hp) (a : Addr) : Hp := fun b => if b = a then none else F b
section
variable {K : PySem.W.Frag} {F : Hp} {a : Addr} {od : Obj} {ks : List (Key × V)}
theorem off_ne {b : Addr} (h : b ≠ a) : offH F a b = F b := if_neg h
theorem off_some {b : Addr} {o : HO} (h : offH F a b = some o) : b ≠ a ∧ F b = some o := by
  unfold offH at h
  split at h
  · cases h
  · exact ⟨‹_›, h⟩
theorem off_of {b : Addr} {o : HO} (h : F a = some (.frz od (.dK ks))) (e : F b = some o) (n : o ≠ .frz od (.dK ks)) : offH F a b = some o := by
  rw [off_ne]
  · exact e
  · intro z
    rw [z, h] at e
    cases e
    exact n rfl
theorem slOff {b : Addr} {xs : List V} (h : F a = some (.frz od (.dK ks))) (q : SqL K F b xs) : SqL K (offH F a) b xs := by
  rcases q with (q | ⟨o, q⟩) | q
  · exact .inl (.inl (off_of h q fun z => by cases z))
  · exact .inl (.inr ⟨o, off_of h q fun z => by cases z⟩)
  · exact .inr q
theorem txOff {b : Addr} {xs : List V} (h : F a = some (.frz od (.dK ks))) (q : TupX K F b xs) : TupX K (offH F a) b xs := by
  rcases q with ⟨o, q, d⟩ | q
  · exact .inl ⟨o, off_of h q (fun z => by cases z), d⟩
  · exact .inr q
mutual
theorem dpOff (h : F a = some (.frz od (.dK ks))) : ∀ {v : V} {d : D}, Dx K F v d → Dx K (offH F a) v d
  | _, _, .non => .non
  | _, _, .bl b => .bl b
  | _, _, .int i => .int i
  | _, _, .str x => .str x
  | _, _, .lst q t => .lst (slOff h q) (dpAllOff h t)
  | _, _, .tup q t => .tup (txOff h q) (dpAllOff h t)
  | _, _, .dct q t => .dct (off_of h q fun z => by cases z) (dpKvOff h t)
  | _, _, .fn a => .fn a
theorem dpKvOff (h : F a = some (.frz od (.dK ks))) : ∀ {vs : List (Key × V)} {ds : List (D × D)}, DxKv K F vs ds → DxKv K (offH F a) vs ds
  | _, _, .nil => .nil
  | _, _, .cons q t => .cons (dpOff h q) (dpKvOff h t)
theorem dpAllOff (h : F a = some (.frz od (.dK ks))) : ∀ {vs : List V} {ds : List D}, DxAll K F vs ds → DxAll K (offH F a) vs ds
  | _, _, .nil => .nil
  | _, _, .cons q t => .cons (dpOff h q) (dpAllOff h t)
end
theorem owOff {H H' : Hp} {b : Addr} {f : List Addr} {w : Ow} (h : F a = some (.frz od (.dK ks))) (q : OwRep K F H b f w) (k : ∀ z ∈ f, H' z = H z) (n : ∀ kvs, w ≠ .dF kvs) : OwRep K (offH F a) H' b f w := by
  cases w with
  | lst ds =>
    obtain ⟨rfl, vs, h1, h2⟩ := q
    exact ⟨rfl, vs, (k b (by simp)).trans h1, dpAllOff h h2⟩
  | lls dss =>
    obtain ⟨bs, rfl, nd, h1, h2⟩ := q
    exact ⟨bs, rfl, nd, (k b (by simp)).trans h1, pairedMap h2 fun z ds m ⟨vs, q1, q2⟩ => ⟨vs, (k z (by simp [m])).trans q1, dpAllOff h q2⟩⟩
  | dK kvs =>
    obtain ⟨rfl, xs, h1, h2⟩ := q
    exact ⟨rfl, xs, (k b (by simp)).trans h1, pairedMap h2 fun p r _ z => ⟨z.1, dpOff h z.2⟩⟩
  | dF kvs => exact absurd rfl (n kvs)
  | dT kvs =>
    obtain ⟨rfl, xs, h1, h2⟩ := q
    exact ⟨rfl, xs, (k b (by simp)).trans h1, pairedMap h2 fun p r _ z => ⟨z.1, z.2.1, dpOff h z.2.2.1, dpOff h z.2.2.2⟩⟩
end
/-- the statement runs while the dict is locked -/
theorem sv_lock {ts : TS} {ρ : Rho} {j : Nat} {kvs : List (Key × D)} {P : Out → Prop} (he : ρ[j]? = some (.own (.dK kvs))) (hp : j ∉ g.ps)
    (h : Sv ⟨g.K, j :: g.ps, g.xe⟩ ts (ρ.set j (.own (.dF kvs))) fun o => ∃ ρ' kvs', o = .nx ρ' ∧ ρ'[j]? = some (.own (.dF kvs')) ∧ (∀ (i : Nat) ks, (ρ'.set j .no)[i]? ≠ some (.own (.dF ks))) ∧ P (.nx (ρ'.set j (.own (.dK kvs'))))) :
    Sv g (tLock ts) ρ P := fun c F H σ E kk s pp => by
  obtain ⟨fp, sf⟩ := id s
  obtain ⟨a, e1, e2, xs, e3, e4⟩ := sf.own j _ he
  have ma : a ∈ fp j := by rw [e2]; simp
  obtain ⟨Fa, Ha, Wa⟩ := sf.ownF j _ a he ma
  have hj : j < ρ.length := (List.getElem?_eq_some_iff.mp he).1
  have Ba : c.B a = none := Wa.resolve_right fun w => by
    obtain ⟨j', hj'⟩ := kk.wp a w
    have := sf.wp j _ a he ma j' hj'
    subst this
    exact notP kk hp a hj'
  have F0a : c.F0 a = none := freeF sf.f0 Fa
  refine ⟨a, .dK xs, e3, trivial, fun od => ?_⟩
  let fz : HO := .frz od (.dK xs)
  let c' : Cc := ⟨c.K, (j, a) :: c.P, c.W, upd c.F0 a fz, upd c.B a fz⟩
  have k' : c'.okS ⟨g.K, j :: g.ps, g.xe⟩ := ⟨⟨kk.ok.1, by show ((j, a) :: c.P).map _ = _; rw [List.map_cons, kk.ok.2]⟩, fun b w => let ⟨i, m⟩ := kk.wp b w; ⟨i, List.mem_cons_of_mem _ m⟩⟩
  have set_own : ∀ {ρ : Rho} {w0 : Ow} {i : Nat} {w : Ow}, j < ρ.length → (ρ.set j (.own w0))[i]? = some (.own w) → (i = j ∧ w = w0) ∨ (i ≠ j ∧ ρ[i]? = some (.own w)) := fun {ρ w0 i w} hl q => by
    by_cases z : i = j
    · subst z
      rw [List.getElem?_set_self hl] at q
      cases q
      exact .inl ⟨rfl, rfl⟩
    · rw [List.getElem?_set_ne (Ne.symm z)] at q
      exact .inr ⟨z, q⟩
  have set_dat : ∀ {ρ : Rho} {w0 : Ow} {i : Nat} {d : D}, j < ρ.length → (ρ.set j (.own w0))[i]? = some (.dat d) → ρ[i]? = some (.dat d) := fun {ρ w0 i d} hl q => by
    by_cases z : i = j
    · subst z
      rw [List.getElem?_set_self hl] at q
      cases q
    · rw [List.getElem?_set_ne (Ne.symm z)] at q
      exact q
  have up1 : Same F (upd F a fz) := sameNew Fa
  have na : ∀ {i : Nat} {w : Ow} {b : Addr}, i ≠ j → ρ[i]? = some (.own w) → b ∈ fp i → b ≠ a := fun {i w b} ne q m z => ne (sf.sep i j w _ a q he (z ▸ m) ma)
  have s' : SimF c' (upd F a fz) (upd H a fz) σ (ρ.set j (.own (.dF kvs))) (fun i => if i = j then [] else fp i) := by
    refine ⟨fun b o q => ?_, fun b o q => ?_, fun b o q w l => ?_, fun b q => ?_, fun b q q2 => ?_, fun i b m => ?_, fun i d q => ?_, fun i w q => ?_, fun i w b q m => ?_, fun i k w w' b q q' m m' => ?_, by rw [List.length_set]; exact sf.len, fun i w b q m i' m' => ?_, fun i b m => ?_, fun P hP => ?_, sf.tw, sf.tl, sf.ti.own (fun u e => by rw [e3] at e; cases e; exact notDK), fun x l => (upd_ne fun z => sf.noLam he ma (by rw [← z]; exact l)).trans (sf.fl x l)⟩
    · by_cases z : b = a
      · subst z; rw [show c'.F0 b = upd c.F0 b fz b from rfl, upd_same] at q; rw [upd_same]; exact q
      · rw [show c'.F0 b = upd c.F0 a fz b from rfl, upd_ne z] at q; rw [upd_ne z]; exact sf.f0 b o q
    · by_cases z : b = a
      · subst z; rw [upd_same] at q ⊢; exact q
      · rw [upd_ne z] at q ⊢; exact sf.fh b o q
    · by_cases z : b = a
      · subst z; rw [show c'.B b = upd c.B b fz b from rfl, upd_same] at q; rw [upd_same]; exact q
      · rw [show c'.B b = upd c.B a fz b from rfl, upd_ne z] at q; rw [upd_ne z]; exact sf.keep b o q w l
    · by_cases z : b = a
      · subst z; rw [upd_same]; simp
      · rw [show c'.B b = upd c.B a fz b from rfl, upd_ne z] at q; rw [upd_ne z]; exact sf.dom b q
    · by_cases z : b = a
      · subst z; rw [show c'.F0 b = upd c.F0 b fz b from rfl, upd_same] at q2; cases q2
      · rw [show c'.B b = upd c.B a fz b from rfl, upd_ne z] at q; rw [show c'.F0 b = upd c.F0 a fz b from rfl, upd_ne z] at q2; rw [upd_ne z]; exact sf.av b q q2
    · rcases List.mem_cons.mp m with z | z
      · cases z; exact e1
      · exact sf.par i b z
    · obtain ⟨v, h1, h2⟩ := sf.dat i d (set_dat hj q)
      exact ⟨v, h1, dpUp up1 h2⟩
    · rcases set_own hj q with ⟨rfl, rfl⟩ | ⟨ne, q⟩
      · exact ⟨a, e1, if_pos rfl, od, xs, upd_same, pairedMap e4 fun p r _ z => ⟨z.1, dpUp up1 z.2⟩⟩
      · obtain ⟨b, h1, h2⟩ := sf.own i w q
        refine ⟨b, h1, ?_⟩
        rw [if_neg ne]
        exact h2.up up1 fun z m => upd_ne (na ne q m)
    · rcases set_own hj q with ⟨rfl, rfl⟩ | ⟨ne, q⟩
      · rw [if_pos rfl] at m; cases m
      · rw [if_neg ne] at m
        obtain ⟨h1, h2, h3⟩ := sf.ownF i w b q m
        have nb := na ne q m
        exact ⟨by rw [upd_ne nb]; exact h1, by rw [upd_ne nb]; exact h2, by rw [show c'.B b = upd c.B a fz b from rfl, upd_ne nb]; exact h3⟩
    · rcases set_own hj q with ⟨rfl, rfl⟩ | ⟨ne, q⟩
      · rw [if_pos rfl] at m; cases m
      · rcases set_own hj q' with ⟨rfl, rfl⟩ | ⟨ne', q'⟩
        · rw [if_pos rfl] at m'; cases m'
        · rw [if_neg ne] at m; rw [if_neg ne'] at m'
          exact sf.sep i k w w' b q q' m m'
    · rcases set_own hj q with ⟨rfl, rfl⟩ | ⟨ne, q⟩
      · rw [if_pos rfl] at m; cases m
      · rw [if_neg ne] at m
        rcases List.mem_cons.mp m' with z | z
        · cases z; exact absurd rfl (na ne q m)
        · exact sf.wp i w b q m i' z
    · rcases List.mem_cons.mp m with z | z
      · cases z; show upd c.B a fz a ≠ none; rw [upd_same]; simp
      · have q := sf.pb i b z
        have nb : b ≠ a := fun y => q (y ▸ Ba)
        show upd c.B a fz b ≠ none
        rw [upd_ne nb]; exact q
    · show upd c.B a fz P.1 = _
      rw [upd_ne (ne_of_none (sf.tb P hP) Ba)]
      exact sf.tb P hP
  refine h c' (upd F a fz) (upd H a fz) σ _ k' ⟨_, s'⟩ ⟨fun ρo F' H' σ' hP t ef => ?_, fun ρo F' H' σ' v r hP => ?_, fun ρo F' H' σ' hP => ?_, fun ρo F' H' σ' hP => ?_, fun ρo F' H' σ' C hP => ?_⟩
  case refine_2 => obtain ⟨_, _, z, _⟩ := hP; cases z
  case refine_3 => obtain ⟨_, _, z, _⟩ := hP; cases z
  case refine_4 => obtain ⟨_, _, z, _⟩ := hP; cases z
  case refine_5 => obtain ⟨_, _, z, _⟩ := hP; cases z
  obtain ⟨ρ', kvs', z, hd, hno, hP⟩ := hP
  cases z
  obtain ⟨fp', tf⟩ := t
  have Fa' : F' a = some (.frz od (.dK xs)) := ef a _ upd_same
  have Ha' : H' a = some fz := tf.fh a _ Fa'
  have hj' : j < ρo.length := (List.getElem?_eq_some_iff.mp hd).1
  have na' : ∀ {i : Nat} {w : Ow} {b : Addr}, ρo[i]? = some (.own w) → b ∈ fp' i → b ≠ a := fun {i w b} q m z => by
    have := (tf.ownF i w b q m).1
    rw [z, Fa'] at this
    cases this
  have nF : ∀ {i : Nat} {w : Ow}, i ≠ j → ρo[i]? = some (.own w) → ∀ ks, w ≠ .dF ks := fun {i w} ne q ks z => hno i ks (by rw [List.getElem?_set_ne (Ne.symm ne), q, z])
  refine ⟨Ha', pp.nx _ (offH F' a) (upd H' a (.dK xs)) σ' hP ⟨fun i => if i = j then [a] else fp' i, ?_⟩ fun b o q => ?_⟩
  · refine ⟨fun b o q => ?_, fun b o q => ?_, fun b o q w l => ?_, fun b q => ?_, fun b q q2 => ?_, fun i b m => ?_, fun i d q => ?_, fun i w q => ?_, fun i w b q m => ?_, fun i k w w' b q q' m m' => ?_, by rw [List.length_set]; exact tf.len, fun i w b q m i' m' => ?_, sf.pb, sf.tb, sf.tw, sf.tl, tf.ti.own (fun u e => by rw [Ha'] at e; cases e; exact notFrz), fun x l => by
      by_cases y : x = a
      · rw [y]; exact if_pos rfl
      · rw [off_ne y]; exact tf.fl x l⟩
    · have nb : b ≠ a := fun z => by rw [z, F0a] at q; cases q
      rw [off_ne nb]
      exact tf.f0 b o (by show upd c.F0 a fz b = _; rw [upd_ne nb]; exact q)
    · obtain ⟨nb, q⟩ := off_some q
      rw [upd_ne nb]
      exact tf.fh b o q
    · have nb : b ≠ a := fun z => by rw [z, Ba] at q; cases q
      rw [upd_ne nb]
      exact tf.keep b o (by show upd c.B a fz b = _; rw [upd_ne nb]; exact q) w l
    · have nb : b ≠ a := fun z => q (z ▸ Ba)
      rw [upd_ne nb]
      exact tf.dom b (by show upd c.B a fz b ≠ _; rw [upd_ne nb]; exact q)
    · have nb : b ≠ a := fun z => q (z ▸ Ba)
      rw [off_ne nb]
      exact tf.av b (by show upd c.B a fz b ≠ _; rw [upd_ne nb]; exact q) (by show upd c.F0 a fz b = _; rw [upd_ne nb]; exact q2)
    · exact tf.par i b (List.mem_cons_of_mem _ m)
    · obtain ⟨v, h1, h2⟩ := tf.dat i d (set_dat hj' q)
      exact ⟨v, h1, dpOff Fa' h2⟩
    · rcases set_own hj' q with ⟨rfl, rfl⟩ | ⟨ne, q⟩
      · obtain ⟨b, h1, _, od', xs', h2, h3⟩ := tf.own i _ hd
        have h4 := tf.par i a List.mem_cons_self
        rw [h1] at h4
        cases h4
        rw [Fa'] at h2
        cases h2
        exact ⟨_, h1, if_pos rfl, xs, upd_same, pairedMap h3 fun p r _ z => ⟨z.1, dpOff Fa' z.2⟩⟩
      · obtain ⟨b, h1, h2⟩ := tf.own i w q
        refine ⟨b, h1, ?_⟩
        rw [if_neg ne]
        exact owOff Fa' h2 (fun z m => upd_ne (na' q m)) (nF ne q)
    · rcases set_own hj' q with ⟨rfl, rfl⟩ | ⟨ne, q⟩
      · rw [if_pos rfl] at m
        have z : b = a := by simpa using m
        subst z
        exact ⟨if_pos rfl, by rw [upd_same]; simp, .inl Ba⟩
      · rw [if_neg ne] at m
        obtain ⟨h1, h2, h3⟩ := tf.ownF i w b q m
        have nb := na' q m
        exact ⟨by rw [off_ne nb]; exact h1, by rw [upd_ne nb]; exact h2, h3.imp (fun z => by rw [show c'.B b = upd c.B a fz b from rfl, upd_ne nb] at z; exact z) id⟩
    · rcases set_own hj' q with ⟨y1, y2⟩ | ⟨ne, q0⟩
      · rcases set_own hj' q' with ⟨y3, y4⟩ | ⟨ne', q0'⟩
        · rw [y1, y3]
        · rw [if_pos y1] at m; rw [if_neg ne'] at m'
          have z : b = a := by simpa using m
          exact absurd z (na' q0' m')
      · rw [if_neg ne] at m
        rcases set_own hj' q' with ⟨y3, y4⟩ | ⟨ne', q0'⟩
        · rw [if_pos y3] at m'
          have z : b = a := by simpa using m'
          exact absurd z (na' q0 m)
        · rw [if_neg ne'] at m'
          exact tf.sep i k w w' b q0 q0' m m'
    · rcases set_own hj' q with ⟨rfl, rfl⟩ | ⟨ne, q⟩
      · rw [if_pos rfl] at m
        have z : b = a := by simpa using m
        subst z
        exact absurd Ba (sf.pb i' b m')
      · rw [if_neg ne] at m
        exact tf.wp i w b q m i' (List.mem_cons_of_mem _ m')
  · have nb : b ≠ a := fun z => by rw [z, Fa] at q; cases q
    rw [off_ne nb]
    exact ef b o (up1 b o q)
section
variable {ti tx te : TE} {ρ ρ1 ρ2 : Rho} {i : Nat} {k : Key} {d z : D} {kvs kvs0 : List (Key × D)} {P : Out → Prop}
/-- d[k], d locked -/
theorem ed_lget (h0 : ρ[i]? = some (.own (.dF kvs0))) (hk : EvD g ti ρ (keyOf k) ρ1) (h1 : ρ1[i]? = some (.own (.dF kvs))) (hd : valD kvs k = some d) : EvD g (tDGet (tVar i) ti) ρ d ρ1 := fun c F H σ kk s Q q => by
  obtain ⟨fp, sf⟩ := id s
  obtain ⟨a, f1, _⟩ := sf.own i _ h0
  refine ⟨_, f1, hk c F H σ kk s _ fun v F1 H1 s1 e1 x => ?_⟩
  obtain ⟨fp1, sf1⟩ := id s1
  obtain ⟨a', g1, _, od, ys, g2, g3⟩ := sf1.own i _ h1
  have := some_inj2 f1 g1
  subst this
  rcases kd_val k g3 with ⟨z1, z2⟩ | ⟨v', d', z1, z2, z3⟩
  · rw [z2] at hd; cases hd
  · rw [hd] at z2
    cases z2
    refine ⟨a, v', rfl, ?_, q v' F1 H1 s1 e1 z3⟩
    rw [dp_key x, ← z1]
    exact .inl ⟨ys, k, .inr ⟨od, sf1.fh _ _ g2⟩, rfl, rfl⟩
/-- d.get(k, x) -/
theorem ed_dget2 (h0 : ρ[i]? = some (.own (.dK kvs0))) (hk : EvD g ti ρ (keyOf k) ρ1) (hx : EvD g tx ρ1 z ρ2) (h2 : ρ2[i]? = some (.own (.dK kvs))) : EvD g (tDGet2 (tVar i) ti tx) ρ ((valD kvs k).getD z) ρ2 := fun c F H σ kk s Q q => by
  obtain ⟨a, xs, f1, f2, f3, _⟩ := s.dkAt h0
  refine ⟨_, f1, a, rfl, .inl ⟨xs, .inl f2⟩, hk c F H σ kk s _ fun v F1 H1 s1 e1 x => hx c F1 H1 σ kk s1 _ fun u F2 H2 s2 e2 y => ?_⟩
  obtain ⟨a', ys, g1, g2, g3, _⟩ := s2.dkAt h2
  have := some_inj2 f1 g1
  subst this
  refine ⟨valV ys k, by rw [dp_key x]; exact DGet.k g2, ?_⟩
  rcases kd_val k g3 with ⟨z1, z2⟩ | ⟨v', d', z1, z2, z3⟩
  · rw [z1]; rw [z2] at q
    exact q u F2 H2 s2 (e1.trans e2) y
  · rw [z1]; rw [z2] at q
    exact q v' F2 H2 s2 (e1.trans e2) z3
/-- a locked dict, gone through -/
theorem ei_keys (h0 : ρ[i]? = some (.own (.dF kvs))) : EvI g (iKeys (tVar i)) ρ (kvs.map fun p => keyOf p.1).length (nthD (kvs.map fun p => keyOf p.1)) ρ := fun c F H σ kk s R q => by
  obtain ⟨fp, sf⟩ := id s
  obtain ⟨a, f1, _, od, xs, f2, f3⟩ := sf.own i _ h0
  have hl := kd_len f3
  refine ⟨_, f1, a, od, rfl, .inl ⟨xs, sf.fh _ _ f2, q _ F H s (Same.refl _) fun F2 H2 e1 e2 => ?_⟩⟩
  have k2 : H2 a = some (.frz od (.dK xs)) := e2 _ _ (e1 _ _ f2)
  rw [List.length_map]
  refine ⟨fun n hn => ⟨k2, by omega⟩, ⟨k2, by omega⟩, fun n x H' hn y => ?_⟩
  obtain ⟨rfl, k, v, hk, rfl⟩ := y
  obtain ⟨d, hd, _⟩ := kd_get f3 hk
  have e : nthD (kvs.map fun p => keyOf p.1) n = keyOf k := by
    unfold nthD
    rw [List.getD_eq_getElem?_getD, List.getElem?_map, hd]
    rfl
  rw [e]
  refine ⟨F2, .at ?_⟩
  cases k with
  | inl m => exact .int m
  | inr m => exact .str m
/-- a thing of one's own gets another name -/
theorem sv_move {j : Nat} {w : Ow} (he : ρ[j]? = some (.own w)) (hw : ∀ ks, w ≠ .dF ks) (h : P (.nx ((ρ.set j .no).set i (.own w)))) (hi : i < ρ.length) (hp : i ∉ g.ps) (hq : j ∉ g.ps) : Sv g (tAsg (tVar j) (gName i)) ρ P := fun c F H σ E kk s p => by
  obtain ⟨fp, sf⟩ := id s
  obtain ⟨a, e1, e2⟩ := sf.own j _ he
  have sh := sf.hide j
  refine ⟨.ref a, e1, ?_⟩
  refine p.nx _ F H _ h (sh.setOwn e2 (fun b m => ?_) (fun k w' b q m m' => ?_) (by simpa using hi) (notP kk hp)) (Same.refl _)
  · obtain ⟨h1, h2, h3⟩ := sf.ownF j w b he m
    refine ⟨h1, h2, h3.resolve_right fun w => ?_⟩
    obtain ⟨j', hj'⟩ := kk.wp b w
    have := sf.wp j _ b he m j' hj'
    subst this
    exact notP kk hq b hj'
  · obtain ⟨ne, q'⟩ := hide_own q
    exact ne (sf.sep k j w' w b q' he m' m)
/-- x += n -/
theorem sv_aug {m n : Int} (h0 : ρ[i]? = some (.dat (.int m))) (he : EvD g te ρ (.int n) ρ1) (h : P (.nx (ρ1.set i (.dat (.int (m + n)))))) (hi : i < ρ1.length) (hp : i ∉ g.ps) : Sv g (tAug i te (ipI fun i j => i + j)) ρ P := fun c F H σ E kk s p => by
  obtain ⟨v, f1, f2⟩ := s.dat h0
  cases f2
  refine ⟨_, f1, he c F H σ kk.ok s _ fun u F1 H1 s1 e1 x => ?_⟩
  cases x
  exact ⟨m, n, rfl, rfl, p.nx _ F1 H1 _ h (s1.setDat (.int _) hi (notP kk hp)) e1⟩
/-- a list's truth -/
theorem et_tru {A : Arg} {ds : List D} (ha : EvO g te ρ A ρ1) (hd : A.den ρ1 = some (.list ds)) : EvT g (fun σ H Q => te σ H fun x H' => ∃ k, TruV g.K x H' k ∧ Q k H') ρ (!ds.isEmpty) ρ1 := fun c F H σ kk s Q q => ha c F H σ kk s _ fun v F1 H1 s1 e1 x => by
  have kk1 : c.K = g.K := kk.1
  have o := Arg.opd s1 x hd
  rw [kk1] at o
  obtain ⟨p, vs, rfl, h1, h2⟩ := o.list s1.fh
  refine ⟨_, .inl ⟨vs, h1, rfl⟩, ?_⟩
  have : vs.isEmpty = ds.isEmpty := by
    have := dpAllLen h2
    cases vs <;> cases ds <;> simp_all
  rw [this]
  exact q F1 H1 s1 e1
end
end DL
namespace DL
open PySem PySem.Spec PyProof.Rows L2
end DL
namespace DL
open PySem PySem.Spec PyProof.Rows L2
variable [TabC]
variable {g : Gm}
def EvX (g : Gm) (ES : L2.St → XK) (te : TE) (ρ : Rho) (C : Addr) (ρ' : Rho) : Prop := ∀ (c : Cc) (F H : Hp) (σ : L2.St), c.ok g → Sim c F H σ ρ → ∀ Q : VK, (∀ F' H', Sim c F' H' σ ρ' → Same F F' → ES σ (.ref C) none H') → te σ H Q
section
variable {t : TA} {te : TE} {ρ ρ1 : Rho} {As : List Arg} {ds : List D} {d : D} {ES : L2.St → XK} {C : Addr}
theorem ed_callXS {R : List D → RetX → Prop} (ha : EvA g t ρ As ρ1) (hR : R ds (.ok (.dat d))) (hd : datas As = some ds) : EvD g (tCallS (spX R g.K) ES t) ρ d ρ1 := fun c F H σ k s Q q =>
  ha c F H σ k s _ fun vs F1 H1 s1 e1 h1 => by
    have kk : c.K = g.K := k.1
    obtain ⟨fp, sf⟩ := id s1
    rw [← kk]
    refine ⟨F1, ds, .ok (.dat d), s1.ft, h1.datas hd, hR, fun v F' H' t r => ?_⟩
    exact q v F' H' ⟨fp, sf.after t⟩ (e1.trans t.f0) r
theorem ex_callXS {R : List D → RetX → Prop} (ha : EvA g t ρ As ρ1) (hR : R ds (.exc C)) (hd : datas As = some ds) : EvX g ES (tCallS (spX R g.K) ES t) ρ C ρ1 := fun c F H σ k s Q q =>
  ha c F H σ k s _ fun vs F1 H1 s1 e1 h1 => by
    have kk : c.K = g.K := k.1
    obtain ⟨fp, sf⟩ := id s1
    rw [← kk]
    refine ⟨F1, ds, .exc C, s1.ft, h1.datas hd, hR, fun F' H' t => ?_⟩
    exact q F' H' ⟨fp, sf.after t⟩ (e1.trans t.f0)
/-- the first argument lets it out -/
theorem ex_arg {sp : Sp} {dvs : List V} {E : XK} {tr : TA} (h : EvX g ES te ρ C ρ1) : EvX g ES (tCall sp dvs E (tCons te tr)) ρ C ρ1 := fun c F H σ k s Q q => h c F H σ k s _ q
theorem ex_lst {tr : TA} (h : EvX g ES te ρ C ρ1) : EvX g ES (tLst (tCons te tr)) ρ C ρ1 := fun c F H σ k s Q q => h c F H σ k s _ q
end
/-- what f, the names of the kinds, promises -/
def spK (K : PySem.W.Frag) (kd : List (Addr × Str)) (cls : Value) (d : Option Addr) (a : Addr) : Sp := fun vs H Q _ => ∃ (Da : Addr) (b : Addr → Bool), vs = [.ref a] ∧ cls = .ref Da ∧ d = none ∧ ExcC K Da ∧ (∀ q ∈ kd, PySem.W.kitOne K (.ref Da) (.ref q.1) = some (b q.1)) ∧
  ∀ p, H p = none → Q (.ref p) (upd H p (.lst ((kd.filter fun q => b q.1).map fun q => V.str q.2)))
def tKind (K : PySem.W.Frag) (kd : List (Addr × Str)) (i : Nat) : Addr → Value → Option Addr → TS := fun a cls d => tRet (tCall (spK K kd cls d a) [] E0 (tCons (tVar i) tNil))
/-- names for a class -/
def KindOk (K : PySem.W.Frag) (S : Addr) (kd : List (Addr × Str)) (C : Addr) (ws : List Str) : Prop :=
  ExcC K C ∧ PySem.W.exmOne K (.ref C) (.ref S) = some true ∧ ∃ b : Addr → Bool, (∀ q ∈ kd, PySem.W.kitOne K (.ref C) (.ref q.1) = some (b q.1)) ∧ ws = (kd.filter fun q => b q.1).map (·.2)
theorem dp_strL {K : PySem.W.Frag} {F : Hp} : ∀ ws : List Str, DxAll K F (ws.map V.str) (ws.map PyData.str)
  | [] => .nil
  | x :: ws => .cons (.str x) (dp_strL ws)
/-- what stands in the air is told by its names -/
theorem kind_lands {c : Cc} {F H F' H' : Hp} {σ : L2.St} {ρ ρ' : Rho} {D : Ends} {P : Out → Prop} {S C : Addr} {kd : List (Addr × Str)} {ws : List Str} {i : Nat} (hk : KindOk g.K S kd C ws) (p : Post g c D F P) (hP : P (.rt ρ' (.new (.lst (ws.map PyData.str))))) (hi : i < σ.length) (s : Sim c F' H' σ ρ') (e : Same F F') :
    wAs g.K (.ref S) i (tKind g.K kd i) (fun _ _ _ _ => False) D (.ref C) none σ H' := by
  obtain ⟨hC, hm, b, hb, rfl⟩ := hk
  refine ⟨true, hm, fun _ a na => ?_, fun z => nomatch z⟩
  refine ⟨_, List.getElem?_set_self hi, C, b, rfl, rfl, rfl, hC, hb, fun q hq => ?_⟩
  have e2 : ((kd.filter fun q => b q.1).map fun q => V.str q.2) = ((kd.filter fun q => b q.1).map (·.2)).map V.str := by rw [List.map_map]; rfl
  rw [e2]
  refine p.rt _ _ _ σ _ _ hP (s.heap hq) e ⟨q, [q], rfl, ⟨rfl, _, upd_same, dp_strL _⟩, fun z m => ?_⟩
  have y : z = q := by simpa using m
  subst y
  refine ⟨freeF s.fh hq, by rw [upd_same]; simp, ?_⟩
  obtain ⟨fp, sf⟩ := s
  cases y : c.B z with
  | none => rfl
  | some u => exact absurd hq (sf.dom z (by simp [y]))
end DL
namespace DL
open PySem PySem.Spec PyProof.Rows L2
variable [TabC]
/-- .. the value is a new tuple -/
def tRevT (K : PySem.W.Frag) (te : TE) : TE := fun σ H Q => te σ H fun x H1 => ∃ a xs, x = .ref a ∧ SqT K H1 a xs ∧ NewT H1 Q xs.reverse
section
variable {g : Gm} {te : TE} {ρ ρ1 : Rho} {ds : List D}
theorem dpAllRev {K : PySem.W.Frag} {F : Hp} : ∀ {vs : List V} {ds : List D}, DxAll K F vs ds → DxAll K F vs.reverse ds.reverse
  | _, _, .nil => .nil
  | _, _, .cons h t => by
    rw [List.reverse_cons, List.reverse_cons]
    exact dpAllApp (dpAllRev t) (.cons h .nil)
theorem ed_revT (h : EvD g te ρ (.tuple ds) ρ1) : EvD g (tRevT g.K te) ρ (.tuple ds.reverse) ρ1 := fun c F H σ k s Q q => h c F H σ k s _ fun v F1 H1 s1 e1 x => by
  have kk : c.K = g.K := k.1
  rw [kk] at x
  obtain ⟨a, vs, rfl, tx, al⟩ := Opd.tupX s1.fh (.inl x)
  refine ⟨a, vs, rfl, tx.old, fun p o hp hd => ?_⟩
  have e2 : Same F1 (upd F1 p (.frz o (.tup vs.reverse))) := sameNew (freeF s1.fh hp)
  refine q _ _ _ (s1.grow hp) (e1.trans e2) ?_
  rw [kk]
  exact .tup (.inl ⟨o, upd_same, hd⟩) (dpAllUp e2 (dpAllRev al))
theorem en_revL {A : Arg} (h : EvO g te ρ A ρ1) (hd : A.den ρ1 = some (.list ds)) : EvN g (tRevL g.K te) ρ ds.reverse ρ1 := fun c F H σ k s Q q => h c F H σ k s _ fun v F1 H1 s1 e1 x => by
  have kk : c.K = g.K := k.1
  have o := Arg.opd s1 x hd
  rw [kk] at o
  obtain ⟨a, vs, rfl, h1, h2⟩ := o.list s1.fh
  refine ⟨a, vs, rfl, h1, fun p hp => ?_⟩
  exact q p _ F1 H1 s1 e1 hp (by rw [kk]; exact dpAllRev h2)
end
end DL
namespace DL
open PySem PySem.Spec PyProof.Rows L2
variable [TabC]
def rSetIT (K : PySem.W.Frag) (w : World) : List V → Hp → VK → Prop := fun vs H Q => ∃ (l : Addr) (ns : List Int), vs = [.ref l] ∧ SqT K H l (ns.map V.int) ∧ ns.length ≤ 1000 ∧ ∀ (p : Addr) (c : Nat), c ≤ ns.length → H p = none → Q (.ref p) (upd H p (SetO w p (fun j => decide (j ∈ ns)) c))
/-- .. ascending, each once -/
def asc (ns : List Int) : List Int := (ns.eraseDups).mergeSort (fun a b => decide (a ≤ b))
theorem asc_one : ∀ {a b : List Int}, a.Pairwise (· < ·) → b.Pairwise (· < ·) → (∀ k, k ∈ a ↔ k ∈ b) → a = b
  | [], [], _, _, _ => rfl
  | [], y :: b, _, _, h => absurd ((h y).mpr List.mem_cons_self) (by simp)
  | x :: a, [], _, _, h => absurd ((h x).mp List.mem_cons_self) (by simp)
  | x :: a, y :: b, ha, hb, h => by
    obtain ⟨a1, a2⟩ := List.pairwise_cons.mp ha
    obtain ⟨b1, b2⟩ := List.pairwise_cons.mp hb
    have e : x = y := by
      rcases List.mem_cons.mp ((h x).mp List.mem_cons_self) with z | z
      · exact z
      · rcases List.mem_cons.mp ((h y).mpr List.mem_cons_self) with u | u
        · exact u.symm
        · have := a1 y u
          have := b1 x z
          omega
    subst e
    rw [asc_one a2 b2 fun k => ⟨fun m => ?_, fun m => ?_⟩]
    · rcases List.mem_cons.mp ((h k).mp (List.mem_cons_of_mem _ m)) with z | z
      · have := a1 k m; omega
      · exact z
    · rcases List.mem_cons.mp ((h k).mpr (List.mem_cons_of_mem _ m)) with z | z
      · have := b1 k m; omega
      · exact z
section
variable {g : Gm} {te : TE} {ρ ρ1 : Rho}
/-- what comes is the one ascending list of them -/
theorem en_srtSet {w : World} {ns zs : List Int} (h : EvD g te ρ (.tuple (ns.map .int)) ρ1) (hz : ns.length < 64) (hs : zs.Pairwise (· < ·)) (hm : ∀ k, k ∈ zs ↔ k ∈ ns) : EvN g (tCB (rSortedSet w) (tCons (tCB (rSetIT g.K w) (tCons te tNil)) tNil)) ρ (zs.map .int) ρ1 := fun c F H σ k s Q q => h c F H σ k s _ fun v F1 H1 s1 e1 x => by
  have kk : c.K = g.K := k.1
  rw [kk] at x
  obtain ⟨a, vs, rfl, tx, al⟩ := Opd.tup s1.fh (.inl x)
  cases dp_ints al
  refine ⟨a, ns, rfl, tx, by omega, fun p n hn hp => ⟨p, fun j => decide (j ∈ ns), n, rfl, upd_same, by omega, fun out p2 h1 h2 h3 hp2 => ?_⟩⟩
  have e : out = zs := asc_one h1 hs fun j => by rw [h2 j, hm j]; exact decide_eq_true_iff
  subst e
  have ne : p2 ≠ p := fun z => by rw [z, upd_same] at hp2; cases hp2
  have s2 := s1.heap (o := SetO w p (fun j => decide (j ∈ ns)) n) hp
  exact q p2 _ F1 _ s2 e1 hp2 (dpInts _)
end
end DL
namespace DL
open PySem PySem.Spec PyProof.Rows L2
variable [TabC]
def rSw (e : Bool) : V → List V → Hp → VK → Prop := fun x xs H Q => ∃ a b, x = V.str a ∧ xs = [V.str b] ∧ Q (.bl (if e then Txt.endswith a b else Txt.startswith a b)) H
theorem rm_sw {K : PySem.W.Frag} {e : Bool} {a b : Str} : RMD K (rSw e) (.str a) [.str b] (.bool (if e then Txt.endswith a b else Txt.startswith a b)) := fun F H x xs Q f p r q => by
  obtain ⟨v, rfl, r1⟩ := r.one
  exact ⟨a, b, p.str, by rw [r1.str], q _ F H (.at (.bl _))⟩
end DL
namespace DL
open PySem PySem.Spec PyProof.Rows L2
variable [TabC]
variable {K : PySem.W.Frag} {g : Gm} {X : Cx}
def kvE (kvs : List (Key × D)) : List (D × D) := kvs.map fun p => (keyOf p.1, p.2)
def unK : List (D × D) → Option (List (Key × D))
  | [] => some []
  | (x, d) :: r => (keyD x).bind fun k => (unK r).map ((k, d) :: ·)
def dictOf : D → Option (List (Key × D))
  | .dict ds => unK ds
  | _ => none
theorem unK_E : ∀ kvs : List (Key × D), unK (kvE kvs) = some kvs
  | [] => rfl
  | (k, d) :: r => by
    have h : keyD (keyOf k) = some k := by cases k <;> rfl
    show (keyD (keyOf k)).bind _ = _
    rw [h]
    show (unK (kvE r)).map _ = _
    rw [unK_E r]
    rfl
theorem kv_un {F : Hp} : ∀ {xs : List (Key × V)} {ds : List (D × D)} {kvs : List (Key × D)}, DxKv K F xs ds → unK ds = some kvs → KD K F xs kvs
  | _, _, _, .nil, h => by cases h; exact .nil
  | _, _, _, .cons (k := k) hv t, h => by
    have hk : keyD (keyOf k) = some k := by cases k <;> rfl
    have h : (keyD (keyOf k)).bind _ = _ := h
    rw [hk] at h
    obtain ⟨ms, hm, e⟩ := Option.map_eq_some_iff.mp (show (unK _).map _ = _ from h)
    subst e
    exact .cons ⟨rfl, hv⟩ (kv_un t hm)
theorem kv_of {F : Hp} : ∀ {xs : List (Key × V)} {kvs : List (Key × D)}, KD K F xs kvs → DxKv K F xs (kvE kvs)
  | _, _, .nil => .nil
  | (k, v) :: _, (k', d) :: _, .cons h t => by
    obtain ⟨h1, h2⟩ := h
    have h1 : k = k' := h1
    subst h1
    exact .cons h2 (kv_of t)
theorem dx_dict {F : Hp} {v : V} {d : D} {kvs : List (Key × D)} (h : Dx K F v d) (e : dictOf d = some kvs) : ∃ a xs, v = .ref a ∧ F a = some (.dK xs) ∧ KD K F xs kvs := by
  cases h with
  | dct h1 h2 => exact ⟨_, _, rfl, h1, kv_un h2 e⟩
  | fn a => cases e
  | _ => cases e
/-- a new dict is put down as data -/
theorem ed_ofWd {te : TE} {ρ ρ1 : Rho} {kvs : List (Key × D)} (h : EvW g te ρ (.dK kvs) ρ1) : EvD g te ρ (.dict (kvE kvs)) ρ1 := fun c F H σ k s Q q => h c F H σ k s _ fun a F' H' ⟨f, fp, s', hr, hf, no⟩ e => by
  obtain ⟨rfl, xs, h1, h2⟩ := hr
  obtain ⟨k1, k2, k3⟩ := hf a (by simp)
  have e2 : Same F' (upd F' a (.dK xs)) := sameNew k1
  exact q _ _ H' ⟨fp, s'.freeze h1 k3 (fun i w z m => no i w a z (by simp) m) k1 (s'.ti.noLam (fun u e => by rw [h1] at e; cases e; exact notDK))⟩ (e.trans e2) (.dct upd_same (dpKvUp e2 (kv_of h2)))
section
variable {ta tb : TE} {ρ ρ1 ρ2 : Rho} {d e z : D} {kvs : List (Key × D)} {k : Key}
theorem ed_dinD (hk : EvD g ta ρ (keyOf k) ρ1) (hd : EvD g tb ρ1 d ρ2) (e : dictOf d = some kvs) : EvD g (tDIn ta tb) ρ (.bool (valD kvs k).isSome) ρ2 := fun c F H σ kk s Q q => hk c F H σ kk s _ fun v F1 H1 s1 e1 x => hd c F1 H1 σ kk s1 _ fun w F2 H2 s2 e2 y => by
  obtain ⟨a, xs, rfl, f2, f3⟩ := dx_dict y e
  refine ⟨a, valV xs k, rfl, ?_, ?_⟩
  · rw [dp_key x]
    exact DGet.k (s2.fh _ _ f2)
  · rcases kd_val k f3 with ⟨z1, z2⟩ | ⟨v', d', z1, z2, _⟩ <;> rw [z1] <;> rw [z2] at q <;> exact q _ F2 H2 s2 (e1.trans e2) (.bl _)
theorem ed_dninD (hk : EvD g ta ρ (keyOf k) ρ1) (hd : EvD g tb ρ1 d ρ2) (e : dictOf d = some kvs) : EvD g (tDNotIn ta tb) ρ (.bool (!(valD kvs k).isSome)) ρ2 := fun c F H σ kk s Q q => hk c F H σ kk s _ fun v F1 H1 s1 e1 x => hd c F1 H1 σ kk s1 _ fun w F2 H2 s2 e2 y => by
  obtain ⟨a, xs, rfl, f2, f3⟩ := dx_dict y e
  refine ⟨a, valV xs k, rfl, ?_, ?_⟩
  · rw [dp_key x]
    exact DGet.k (s2.fh _ _ f2)
  · rcases kd_val k f3 with ⟨z1, z2⟩ | ⟨v', d', z1, z2, _⟩ <;> rw [z1] <;> rw [z2] at q <;> exact q _ F2 H2 s2 (e1.trans e2) (.bl _)
theorem ed_dgetD (hd : EvD g ta ρ d ρ1) (hk : EvD g tb ρ1 (keyOf k) ρ2) (e : dictOf d = some kvs) (hv : valD kvs k = some z) : EvD g (tDGet ta tb) ρ z ρ2 := fun c F H σ kk s Q q => hd c F H σ kk s _ fun w F1 H1 s1 e1 y => hk c F1 H1 σ kk s1 _ fun v F2 H2 s2 e2 x => by
  obtain ⟨a, xs, rfl, f2, f3⟩ := dx_dict y e
  rcases kd_val k f3 with ⟨z1, z2⟩ | ⟨v', d', z1, z2, z3⟩
  · rw [z2] at hv; cases hv
  · rw [z2] at hv
    cases hv
    refine ⟨a, v', rfl, ?_, q _ F2 H2 s2 (e1.trans e2) (dpUp e2 z3)⟩
    rw [dp_key x, ← z1]
    exact DGet.k (s2.fh _ _ (e2 _ _ f2))
end
/-- list(d) of a dict -/
theorem rc_listK {d : D} {kvs : List (Key × D)} (e : dictOf d = some kvs) : RCN K rListD [d] (kvs.map fun p => keyOf p.1) := fun F H xs Q f a q => by
  obtain ⟨v, rfl, a1⟩ := a.one
  have x : Dx K F v d := by
    rcases a1 with x | ⟨_, _, _, _, rfl, _, _⟩
    · exact x
    · cases e
  obtain ⟨p, ys, rfl, h1, h2⟩ := dx_dict x e
  refine ⟨p, ys, rfl, f _ _ h1, fun t ht => q t _ ht ?_⟩
  clear h1 e x a1 a q
  induction h2 with
  | nil => exact .nil
  | cons h t ih =>
    rename_i p1 p2 _ _
    obtain ⟨k1, v1⟩ := p1
    obtain ⟨k2, d2⟩ := p2
    have h1 : k1 = k2 := h.1
    subst h1
    refine .cons ?_ ih
    cases k1 with
    | inl i => exact .int i
    | inr y => exact .str y
theorem ed_fn {ρ : Rho} {a : Addr} : EvD g (tC (.ref a)) ρ (fnD a) ρ := fun c F H σ kk s Q q => q _ F H s (Same.refl _) (.fn a)
def asFn : D → Option Addr
  | .dict [(.none, .int (.ofNat a))] => some a
  | _ => none
theorem asFn_eq {d : D} {a : Addr} (h : asFn d = some a) : d = fnD a := by
  unfold asFn at h
  split at h
  · cases h; rfl
  · cases h
theorem dx_fn {F : Hp} {v : V} {a : Addr} (h : Dx K F v (fnD a)) : v = .ref a := by
  unfold fnD at h
  generalize e : (PyData.int (a : Nat)) = y at h
  cases h with
  | dct h1 h2 =>
    exfalso
    generalize e2 : [(PyData.none, y)] = ds at h2
    cases h2 with
    | nil => cases e2
    | cons x t =>
      rename_i k _ _ _ _
      have := congrArg Prod.fst (List.cons.inj e2).1
      cases k <;> cases this
  | fn b =>
    have : (PyData.int (b : Nat)) = .int (a : Nat) := by first | exact e.symm | rfl
    have : (b : Int) = (a : Int) := by injection this
    have : b = a := Int.ofNat_inj.mp this
    rw [this]
def tblF (tbl : List (Addr × (List D → Option RetV))) (a : Addr) : Option (List D → Option RetV) := (tbl.find? fun q => decide (q.1 = a)).map (·.2)
def tCallF (K : PySem.W.Frag) (i : Nat) (tbl : List (Addr × (List D → Option RetV))) (t : TA) : TE := tCallA i (fun a => (tblF tbl a).map fun f => spD (fun ds r => f ds = some r) K) t
section
variable {t : TA} {ρ ρ1 : Rho} {As : List Arg} {ds : List D} {i : Nat} {a : Addr} {tbl : List (Addr × (List D → Option RetV))} {f : List D → Option RetV}
theorem ed_callF {d : D} (h0 : ρ[i]? = some (.dat (fnD a))) (hf : tblF tbl a = some f) (ha : EvA g t ρ As ρ1) (hR : f ds = some (.dat d)) (hd : datas As = some ds := by rfl) : EvD g (tCallF g.K i tbl t) ρ d ρ1 := fun c F H σ k s Q q => by
  obtain ⟨v, f1, f2⟩ := s.dat h0
  rw [dx_fn f2] at f1
  have e := ed_call (g := g) (R := fun ds r => f ds = some r) (E := E0) ha hR hd c F H σ k s Q q
  refine ⟨a, spD (fun ds r => f ds = some r) g.K, f1, by show (tblF tbl a).map _ = _; rw [hf]; rfl, ?_⟩
  have z : (fun (vs : List V) (H1 : Hp) => spD (fun ds r => f ds = some r) g.K (vs ++ []) H1 Q E0) = fun vs H1 => spD (fun ds r => f ds = some r) g.K vs H1 Q (fun _ _ _ => False) := by
    funext vs H1
    rw [List.append_nil]
  rw [← z]
  exact e
theorem ew_callF {w : Ow} (h0 : ρ[i]? = some (.dat (fnD a))) (hf : tblF tbl a = some f) (ha : EvA g t ρ As ρ1) (hR : f ds = some (.new w)) (hd : datas As = some ds := by rfl) : EvW g (tCallF g.K i tbl t) ρ w ρ1 := fun c F H σ k s Q q => by
  obtain ⟨v, f1, f2⟩ := s.dat h0
  rw [dx_fn f2] at f1
  have e := ew_call (g := g) (R := fun ds r => f ds = some r) (E := E0) ha hR hd c F H σ k s Q q
  refine ⟨a, spD (fun ds r => f ds = some r) g.K, f1, by show (tblF tbl a).map _ = _; rw [hf]; rfl, ?_⟩
  have z : (fun (vs : List V) (H1 : Hp) => spD (fun ds r => f ds = some r) g.K (vs ++ []) H1 Q E0) = fun vs H1 => spD (fun ds r => f ds = some r) g.K vs H1 Q (fun _ _ _ => False) := by
    funext vs H1
    rw [List.append_nil]
  rw [← z]
  exact e
end
end DL
namespace DL
open PySem PySem.Spec PyProof.Rows L2
variable [TabC]
variable {K : PySem.W.Frag} {g : Gm} {X : Cx}
def kitL (a : String) : List String → Option Bool
  | [] => some false
  | T :: r => match kitB a T with
    | some true => some true
    | some false => kitL a r
    | none => none
def kitM (d : D) (Ts : List String) : Option Bool := if notDct d = true then kitL (tyN d) Ts else none
theorem kitL_ok {a : String} : ∀ {Ts : List String} {b : Bool}, kitL a Ts = some b → PySem.W.kitAny K (.type a) (Ts.map Value.type) = some b
  | [], b, h => by cases h; rfl
  | T :: r, b, h => by
    unfold kitL at h
    rw [List.map_cons, PySem.W.kitAny.eq_def]
    cases e : kitB a T with
    | none => rw [e] at h; cases h
    | some x =>
      rw [e] at h
      simp only [kit_ty (K := K) e]
      cases x with
      | true => exact h
      | false => exact kitL_ok h
def tysA : List String → TA
  | [] => tNil
  | T :: r => tCons (tC (.ty T)) (tysA r)
theorem tys_run (σ : L2.St) (H : Hp) : ∀ (Ts : List String) (Q : List V → Hp → Prop), Q (Ts.map V.ty) H → tysA Ts σ H Q
  | [], Q, q => q
  | T :: r, Q, q => by
    show tysA r σ H fun xs H1 => Q (.ty T :: xs) H1
    exact tys_run σ H r _ q
theorem tys_pair : ∀ Ts : List String, Paired ClsV (Ts.map V.ty) (Ts.map Value.type)
  | [] => .nil
  | T :: r => .cons (.ty T) (tys_pair r)
theorem ed_isaT {te : TE} {ρ ρ1 : Rho} {A : Arg} {d : D} {Ts : List String} {b : Bool} (ha : EvO g te ρ A ρ1) (dA : A.den ρ1 = some d) (hk0 : kitM d Ts = some b) (hl : Ts.length ≤ 10) : EvD g (tCB (rIsiT g.K) (tCons te (tCons (tTup (tysA Ts)) tNil))) ρ (.bool b) ρ1 := fun c F H σ k s Q q =>
  ha c F H σ k s _ fun v F1 H1 s1 e1 h1 => by
    have kk : c.K = g.K := k.1
    unfold kitM at hk0
    split at hk0
    case isFalse => cases hk0
    rename_i hn
    refine tys_run σ H1 Ts _ ⟨by rw [List.length_map, sizeLine_eq]; omega, fun p np => ?_⟩
    have s2 := s1.heap (o := .tup (Ts.map V.ty)) np
    have o1 := Arg.opd s2 h1 dA
    rw [kk] at o1
    exact ⟨v, p, _, _, _, b, rfl, upd_same, tys_pair Ts, tyx_of s2.fh o1 hn, kitL_ok hk0, q _ F1 _ s2 e1 (.bl b)⟩
theorem rc_lenK {d : D} {kvs : List (Key × D)} (e : dictOf d = some kvs) : RCD K (fun xs H Q => ∃ a kvs, xs = [V.ref a] ∧ H a = some (.dK kvs) ∧ Q (.int kvs.length) H) [d] (.int kvs.length) := fun F H xs Q f a q => by
  obtain ⟨v, rfl, a1⟩ := a.one
  have x : Dx K F v d := by
    rcases a1 with x | ⟨_, _, _, _, rfl, _, _⟩
    · exact x
    · cases e
  obtain ⟨p, ys, rfl, h1, h2⟩ := dx_dict x e
  refine ⟨p, ys, rfl, f _ _ h1, ?_⟩
  rw [Paired.length h2]
  exact q _ F H (.at (.int _))
section
variable {ρ : Rho} {i : Nat} {kvs : List (Key × D)} {P : Out → Prop}
theorem Sim.frzD {c : Cc} {F H : Hp} {σ : L2.St} (s : Sim c F H σ ρ) (h0 : ρ[i]? = some (.own (.dK kvs))) (hP : ∀ (a : Addr), (i, a) ∉ c.P) (hW : ∀ a, c.W a → ∃ j, (j, a) ∈ c.P) : ∃ F', Same F F' ∧ Sim c F' H σ (ρ.set i (.dat (.dict (kvE kvs)))) := by
  obtain ⟨fp, sf⟩ := id s
  obtain ⟨a, e1, e2', xs, e2, e4⟩ := sf.own i _ h0
  have m : a ∈ fp i := by rw [e2']; simp
  have e3 : F a = none := (sf.ownF i _ a h0 m).1
  have hi : i < ρ.length := (List.getElem?_eq_some_iff.mp h0).1
  have hB : c.B a = none := by
    rcases (sf.ownF i _ a h0 m).2.2 with q | q
    · exact q
    · obtain ⟨j, hj⟩ := hW a q
      have := sf.wp i _ a h0 m j hj
      subst this
      exact absurd hj (hP a)
  have s2 := (sf.hide i).freeze e2 hB (fun j w q m' => by
    by_cases z : j = i
    · subst z; rw [List.getElem?_set_self hi] at q; cases q
    · rw [List.getElem?_set_ne (Ne.symm z)] at q
      exact z (sf.sep j i w _ a q h0 m' m)) e3 (sf.ti.noLam (fun u e => by rw [e2] at e; cases e; exact notDK))
  have e5 : Same F (upd F a (.dK xs)) := sameNew e3
  refine ⟨_, e5, ?_⟩
  have s3 : Sim c (upd F a (.dK xs)) H σ (ρ.set i .no) := ⟨fp, s2⟩
  have s4 := s3.setDat (i := i) (v := .ref a) (d := .dict (kvE kvs)) (.dct upd_same (dpKvUp e5 (kv_of e4))) (by simpa using hi) hP
  have e6 : σ.set i (some (.ref a)) = σ := by
    apply List.ext_getElem?
    intro n
    by_cases z : n = i
    · subst z
      rw [List.getElem?_set_self (by rw [sf.len]; exact hi), e1]
    · rw [List.getElem?_set_ne (Ne.symm z)]
  rw [e6, List.set_set] at s4
  exact s4
theorem sv_frzD {ts : TS} (h0 : ρ[i]? = some (.own (.dK kvs))) (h : Sv g ts (ρ.set i (.dat (.dict (kvE kvs)))) P) (hp : i ∉ g.ps := by simp) : Sv g ts ρ P := fun c F H σ E k s p => by
  obtain ⟨F', e, s'⟩ := s.frzD h0 (notP k hp) k.wp
  exact h c F' H σ E k s' (p.up e)
end
end DL
namespace DL
open PySem PySem.Spec PyProof.Rows L2
variable [TabC]
variable {K : PySem.W.Frag} {g : Gm} {X : Cx}
theorem ew_dispb {tk : TE} {ρ : Rho} {k : Key} {n : Bool} (hk : PureE g tk ρ (keyOf k)) : EvW g (tDisp [(tk, tC (.bl n))]) ρ (.dK [(k, .bool n)]) ρ := fun c F H σ kk s Q q p hp => by
  obtain ⟨fp, sf⟩ := id s
  refine hk c F H σ kk.1 s (upd H p (.dK [])) _ fun v x => ?_
  show upd H p (.dK []) p = some (.dK []) ∧ _
  refine ⟨upd_same, [(k, .bl n)], by rw [kd_key x]; rfl, by simp, ?_⟩
  have hB : c.B p = none := by
    cases z : c.B p with
    | none => rfl
    | some u => exact absurd hp (sf.dom p (by simp [z]))
  have no : ∀ (j : Nat) (w : Ow), ρ[j]? = some (.own w) → p ∉ fp j := fun j w z m => (sf.ownF j w p z m).2.1 hp
  have eu : upd (upd H p (.dK [])) p (.dK (mergeK [] [(k, V.bl n)])) = upd H p (.dK (mergeK [] [(k, V.bl n)])) := by
    funext b
    unfold upd
    split <;> rfl
  rw [eu]
  refine q p F _ ⟨[p], fp, sf.other (freeF sf.fh hp) hB no (fun u e => by rw [hp] at e; cases e), ⟨rfl, _, upd_same, .cons ⟨rfl, .bl n⟩ .nil⟩, fun b m => ?_, fun j w' b z m => ?_⟩ (Same.refl _)
  · have z : b = p := by simpa using m
    subst z
    exact ⟨freeF sf.fh hp, by rw [upd_same]; simp, hB⟩
  · have y : b = p := by simpa using m
    subst y
    exact no j w' z
def tNewL (te : TE) : TE := fun σ H Q => te σ H fun v H1 => ∃ a xs, v = .ref a ∧ H1 a = some (.dK xs) ∧ ∀ od, Q v (upd H1 a (.frz od (.dK xs)))
theorem ei_newK {te : TE} {ρ ρ1 : Rho} {kvs : List (Key × D)} (h : EvW g te ρ (.dK kvs) ρ1) : EvI g (iKeys (tNewL te)) ρ (kvs.map fun p => keyOf p.1).length (nthD (kvs.map fun p => keyOf p.1)) ρ1 := fun c F H σ kk s R q => h c F H σ kk s _ fun a F1 H1 ⟨f, fp, sf, hr, hf, no⟩ e0 => by
  obtain ⟨rfl, xs, h1, f3⟩ := hr
  obtain ⟨k1, k2, k3⟩ := hf a (by simp)
  refine ⟨a, xs, rfl, h1, fun od => ⟨a, od, rfl, .inl ⟨xs, upd_same, ?_⟩⟩⟩
  have hl := kd_len f3
  have s1 : SimF c F1 (upd H1 a (.frz od (.dK xs))) σ ρ1 fp := sf.other k1 k3 (fun i w z m => no i w a z (by simp) m) (fun u e => by rw [h1] at e; cases e; exact notDK)
  have s2 := s1.freeze (o := .frz od (.dK xs)) upd_same k3 (fun i w z m => no i w a z (by simp) m) k1 (s1.ti.noLam (fun u e => by rw [upd_same] at e; cases e; exact notFrz))
  have e1 : Same F1 (upd F1 a (.frz od (.dK xs))) := sameNew k1
  refine q _ _ _ ⟨fp, s2⟩ (e0.trans e1) fun F2 H2 e2 e3 => ?_
  have k2 : H2 a = some (.frz od (.dK xs)) := e3 _ _ (e2 _ _ upd_same)
  rw [List.length_map]
  refine ⟨fun n hn => ⟨k2, by omega⟩, ⟨k2, by omega⟩, fun n x H' hn y => ?_⟩
  obtain ⟨rfl, k, v, hk, rfl⟩ := y
  obtain ⟨d, hd, _⟩ := kd_get f3 hk
  have e : nthD (kvs.map fun p => keyOf p.1) n = keyOf k := by
    unfold nthD
    rw [List.getD_eq_getElem?_getD, List.getElem?_map, hd]
    rfl
  rw [e]
  cases k with
  | inl i => exact ⟨F2, .at (.int i)⟩
  | inr z => exact ⟨F2, .at (.str z)⟩
end DL
namespace EV
open PySem PySem.Spec PyProof.Rows L2 DL
variable [DL.TabC]
variable {K : PySem.W.Frag} {g : Gm}
inductive Op where
  | add | sub | mul | fdiv | mod | pow | eq | ne | lt | le | gt | ge | isIn | notIn | ix
/-- data, or a new list -/
inductive Rz where
  | d (z : D)
  | n (zs : List D)
def flatD : D → Bool
  | .none => true
  | .bool _ => true
  | .int _ => true
  | .str _ => true
  | _ => false
def inD (d : D) (ds : List D) : Bool := ds.any fun z => PyData.eqv z d
def op2 : Op → D → D → Option Rz
  | .add, .int i, .int j => some (.d (.int (i + j)))
  | .add, .str i, .str j => if i.length + j.length ≤ sizeLine then some (.d (.str (i ++ j))) else none
  | .add, .tuple xs, .tuple ys => if xs.length + ys.length ≤ sizeLine then some (.d (.tuple (xs ++ ys))) else none
  | .add, .list xs, .list ys => if xs.length + ys.length ≤ sizeLine then some (.n (xs ++ ys)) else none
  | .sub, .int i, .int j => some (.d (.int (i - j)))
  | .mul, .int i, .int j => if (-(2 ^ 64) < i ∧ i < 2 ^ 64) ∨ (-(2 ^ 64) < j ∧ j < 2 ^ 64) then some (.d (.int (i * j))) else none
  | .mul, .tuple xs, .int k => if -(2 ^ 63) ≤ k ∧ k ≤ 1000 ∧ xs.length ≤ 1000 then some (.d (.tuple (List.replicate k.toNat xs).flatten)) else none
  | .mul, .list xs, .int k => if -(2 ^ 63) ≤ k ∧ k ≤ 1000 ∧ xs.length ≤ 1000 then some (.n (List.replicate k.toNat xs).flatten) else none
  | .fdiv, .int i, .int j => if 0 < j ∧ j < 1073741824 then some (.d (.int (i / j))) else none
  | .mod, .int i, .int j => if 0 < j then some (.d (.int (i % j))) else none
  | .pow, .int i, .int j => if 0 ≤ j ∧ j ≤ 1000000 ∧ i.natAbs < 2 ^ 64 then some (.d (.int (i ^ j.toNat))) else none
  | .eq, .str i, .str j => some (.d (.bool (i == j)))
  | .eq, d, e => if SeqAt.shaped d = true ∧ SeqAt.shaped e = true then some (.d (.bool (PyData.eqv d e))) else none
  | .ne, .str i, .str j => some (.d (.bool (!(i == j))))
  | .ne, d, e => if SeqAt.shaped d = true ∧ SeqAt.shaped e = true then some (.d (.bool (!PyData.eqv d e))) else none
  | .lt, .int i, .int j => some (.d (.bool (decide (i < j))))
  | .lt, .tuple xs, .tuple ys => if PySem.W.alike (.tuple xs) (.tuple ys) = true ∧ min (PyData.tuple xs).depth (PyData.tuple ys).depth ≤ 64 ∧ (PyData.tuple xs).hasDict = false ∧ (PyData.tuple ys).hasDict = false then some (.d (.bool (PySem.W.dataLt (.tuple xs) (.tuple ys)))) else none
  | .lt, .list xs, .list ys => if PySem.W.alike (.list xs) (.list ys) = true ∧ min (PyData.list xs).depth (PyData.list ys).depth ≤ 64 ∧ (PyData.list xs).hasDict = false ∧ (PyData.list ys).hasDict = false then some (.d (.bool (PySem.W.dataLt (.list xs) (.list ys)))) else none
  | .le, .int i, .int j => some (.d (.bool (decide (i ≤ j))))
  | .gt, .int i, .int j => some (.d (.bool (decide (j < i))))
  | .ge, .int i, .int j => some (.d (.bool (decide (j ≤ i))))
  | .isIn, d, .list ds => if SeqAt.shaped d = true ∧ SeqAt.shaped (.list ds) = true then some (.d (.bool (inD d ds))) else none
  | .isIn, d, .tuple ds => if flatD d = true ∧ ds.all flatD = true then some (.d (.bool (inD d ds))) else none
  | .notIn, d, .list ds => if SeqAt.shaped d = true ∧ SeqAt.shaped (.list ds) = true then some (.d (.bool (!inD d ds))) else none
  | .notIn, d, .tuple ds => if flatD d = true ∧ ds.all flatD = true then some (.d (.bool (!inD d ds))) else none
  | .ix, .list ds, .int i => (atI ds i).map .d
  | .ix, .tuple ds, .int i => (atI ds i).map .d
  | .ix, .str z, .int i => if z.length ≤ sizeLine then (atI z.cps.toList i).map fun cp => .d (.str ⟨#[cp]⟩) else none
  | _, _, _ => none
/-- list + list, of any lists -/
def rCatL (K : PySem.W.Frag) : R2 := fun x y H Q => ∃ a b xs ys, x = .ref a ∧ y = .ref b ∧ SqL K H a xs ∧ SqL K H b ys ∧ xs.length + ys.length ≤ sizeLine ∧ ∀ p, H p = none → Q (.ref p) (upd H p (.lst (xs ++ ys)))
theorem op_catL {X : Cx} : OpR X (binaryOp .Add) (rCatL X.K) := by
  rintro pins s σ H x y v u Q I rx ry ⟨a, b, xs, ys, rfl, rfl, ha, hb, hz, q⟩
  cases rx
  cases ry
  obtain ⟨its, r, ⟨⟨cls, dd, data, sl⟩, n, e, hc, hd, hl⟩, _⟩ := I.list ha
  obtain ⟨its2, r2, ⟨⟨cls2, dd2, data2, sl2⟩, n2, e2, hc2, hd2, hl2⟩, _⟩ := I.list hb
  simp only at hc hd hl hc2 hd2 hl2
  subst hc hd hl hc2 hd2 hl2
  have ee : its.toArray ++ its2.toArray = (its ++ its2).toArray := by simp
  refine concat_meets ⟨_, e, rfl⟩ ⟨_, e2, rfl⟩ noFill_list_add seq_list_add PySem.F.slot_list_add PySem.F.entry_list_add (PySem.F.args_list_add_2 _ _) (list_addW a b its.toArray its2.toArray n n2 none none sl sl2 (by simp; rw [← r.length, ← r2.length]; exact hz)) ⟨e, e2, ?_⟩
  rw [ee]
  exact ⟨.ref _, _, I.lnew (t' := s.toks) (r.append r2) (by rw [List.length_append]; omega), rfl, q _ I.fresh⟩
def opK (K : PySem.W.Frag) : Op → R2
  | .add => fun x y H Q => uAdd K x y H Q ∨ rCatL K x y H Q
  | .sub => rI0 fun i j => .int (i - j)
  | .mul => fun x y H Q => rI CMul (fun i j => .int (i * j)) x y H Q ∨ (rRepX K x y H Q ∨ (rRepS K x y H Q ∨ (rRep0 K x y H Q ∨ rRepL K x y H Q)))
  | .fdiv => rI CDiv fun i j => .int (i / j)
  | .mod => rI (fun _ j => 0 < j) fun i j => .int (i % j)
  | .pow => rI CPow fun i j => .int (i ^ j.toNat)
  | .eq => fun x y H Q => rEqD K x y H Q ∨ rEq x y H Q
  | .ne => fun x y H Q => rNeD K x y H Q ∨ rNe x y H Q
  | .lt => fun x y H Q => rI0 (fun i j => .bl (decide (i < j))) x y H Q ∨ rLtD K x y H Q
  | .le => rI0 fun i j => .bl (decide (i ≤ j))
  | .gt => rI0 fun i j => .bl (decide (j < i))
  | .ge => rI0 fun i j => .bl (decide (j ≤ i))
  | .isIn => uIn K
  | .notIn => uNotIn K
  | .ix => rIx K
theorem opr_add {X : Cx} : OpR X (binaryOp .Add) (opK X.K .add) := OpR.or op_uAdd op_catL
theorem opr_sub {X : Cx} : OpR X (binaryOp .Sub) (opK X.K .sub) := op_sub
theorem opr_mul {X : Cx} : OpR X (binaryOp .Mult) (opK X.K .mul) := OpR.or op_mul (OpR.or op_repX (OpR.or op_repS (OpR.or op_rep0 op_repL)))
theorem opr_fdiv {X : Cx} : OpR X (binaryOp .FloorDiv) (opK X.K .fdiv) := op_fdiv
theorem opr_mod {X : Cx} : OpR X (binaryOp .Mod) (opK X.K .mod) := op_mod
theorem opr_pow {X : Cx} : OpR X (binaryOp .Pow) (opK X.K .pow) := op_pow
theorem opr_eq {X : Cx} (hu : X.A.units + 64 < cLine) : OpR X (compareOp .Eq) (opK X.K .eq) := OpR.or (op_eqD hu) op_eq
theorem opr_ne {X : Cx} (hu : X.A.units + 64 < cLine) : OpR X (compareOp .NotEq) (opK X.K .ne) := OpR.or (op_neD hu) op_ne
theorem opr_gt {X : Cx} : OpR X (compareOp .Gt) (opK X.K .gt) := op_gt
theorem opr_ge {X : Cx} : OpR X (compareOp .GtE) (opK X.K .ge) := op_ge
theorem opr_notIn {X : Cx} (hu : X.A.units + 65 < cLine) : OpR X (compareOp .NotIn) (opK X.K .notIn) := op_uNotIn hu
theorem flat_v {F : Hp} {v : V} {d : D} (h : Dx K F v d) (hf : flatD d = true) : flatV v = true := by
  cases h <;> first | rfl | cases hf
theorem flats_v {F : Hp} : ∀ {vs : List V} {ds : List D}, DxAll K F vs ds → ds.all flatD = true → vs.all flatV = true
  | _, _, .nil, _ => rfl
  | _, _, .cons h t, hf => by
    rw [List.all_cons, Bool.and_eq_true] at hf ⊢
    exact ⟨flat_v h hf.1, flats_v t hf.2⟩
theorem eqV_D {F : Hp} {u v : V} {d e : D} (h : Dx K F u d) (h2 : Dx K F v e) (hd : flatD d = true) (he : flatD e = true) : eqV u v = PyData.eqv d e := by
  cases h <;> first | (cases h2 <;> first | rfl | cases he) | cases hd
theorem inV_D {F : Hp} {v : V} {d : D} (h : Dx K F v d) (hd : flatD d = true) : ∀ {vs : List V} {ds : List D}, DxAll K F vs ds → ds.all flatD = true → inV v vs = inD d ds
  | _, _, .nil, _ => rfl
  | _, _, .cons a t, hf => by
    rw [List.all_cons, Bool.and_eq_true] at hf
    have e := inV_D h hd t hf.2
    unfold inV inD at e ⊢
    rw [List.any_cons, List.any_cons, e, eqV_D a h hf.1 hd]
theorem Opd.flat {F H : Hp} {v : V} {d : D} (h : Opd K F H v d) (hd : flatD d = true) : Dx K F v d := by
  rcases h with h | ⟨a, vs, ds, rfl, rfl, _⟩
  · exact h
  · cases hd
theorem inT {d : D} {ds : List D} {neg : Bool} (h1 : flatD d = true) (h2 : ds.all flatD = true) : R2D K (rIn K neg) d (.tuple ds) (.bool (if neg then !inD d ds else inD d ds)) := fun F H x l Q f a b q => by
  obtain ⟨p, vs, rfl, k1, k2⟩ := b.tup f
  have a' := Opd.flat a h1
  refine ⟨p, vs, rfl, .inr k1, flat_v a' h1, flats_v k2 h2, ?_⟩
  rw [inV_D a' h1 k2 h2]
  exact q _ F H (.at (.bl _))
theorem catLN {xs ys : List D} (hz : xs.length + ys.length ≤ sizeLine) : R2N K (rCatL K) (.list xs) (.list ys) (xs ++ ys) := fun F H x y Q f a b q => by
  obtain ⟨p, vs, rfl, k1, k2⟩ := a.list f
  obtain ⟨r, ws, rfl, m1, m2⟩ := b.list f
  exact ⟨p, r, vs, ws, rfl, rfl, k1, m1, by rw [dpAllLen k2, dpAllLen m2]; exact hz, fun t ht => q t _ ht (dpAllApp k2 m2)⟩
theorem r2n_or2 {r r' : R2} {d e : D} {zs : List D} (h : R2N K r' d e zs) : R2N K (fun x y H Q => r x y H Q ∨ r' x y H Q) d e zs := fun F H x y Q f a b q => .inr (h F H x y Q f a b q)
def RzOk (K : PySem.W.Frag) (r : R2) (d e : D) : Rz → Prop
  | .d z => R2D K r d e z
  | .n zs => R2N K r d e zs
theorem mulT {ds : List D} {n : Int} (h0 : -(2 ^ 63) ≤ n) (h1 : n ≤ 1000) (h2 : ds.length ≤ 1000) : R2D K (fun x y H Q => rRepX K x y H Q ∨ (rRepS K x y H Q ∨ (rRep0 K x y H Q ∨ rRepL K x y H Q))) (.tuple ds) (.int n) (.tuple (List.replicate n.toNat ds).flatten) := by
  by_cases e : ds = []
  · subst e
    have : (List.replicate n.toNat ([] : List D)).flatten = [] := by simp
    rw [this]
    exact r2_or2 (r2_or1 (r2_repS h0 (by omega) (.inl rfl)))
  · by_cases e1 : n = 1
    · subst e1
      have : (List.replicate (1 : Int).toNat ds).flatten = ds := by simp
      rw [this]
      exact r2_or2 (r2_or1 (r2_repS h0 (by omega) (.inr rfl)))
    · by_cases e0 : n ≤ 0
      · have : (List.replicate n.toNat ds).flatten = [] := by rw [show n.toNat = 0 by omega]; rfl
        rw [this]
        exact r2_or2 (r2_or2 (r2_or1 (r2_rep0 h0 e0 e)))
      · exact r2_or1 (r2_rep e (by omega) h1 h2)
theorem repLN {xs : List D} {n : Int} (h0 : -(2 ^ 63) ≤ n) (h1 : n ≤ 1000) (h2 : xs.length ≤ 1000) : R2N K (rRepL K) (.list xs) (.int n) (List.replicate n.toNat xs).flatten := fun F H x y Q f a b q => by
  obtain ⟨p, vs, rfl, k1, k2⟩ := a.list f
  have hl := dpAllLen k2
  refine ⟨p, n, vs, rfl, b.int, k1, h0, by omega, ?_, fun t ht => q t _ ht (r2_rep.rep n.toNat k2)⟩
  rw [hl, sizeLine_eq]
  have : xs.length * n.toNat ≤ 1000 * 1000 := Nat.mul_le_mul h2 (by omega)
  omega
theorem op2_ok (o : Op) (d e : D) (z : Rz) (h : op2 o d e = some z) : RzOk K (opK K o) d e z := by
  revert h
  unfold op2
  split <;> intro h
  case h_1 => cases h; exact r2_or1 ra_int
  case h_2 =>
    split at h
    · cases h; exact r2_or1 (ra_str ‹_›)
    · cases h
  case h_3 =>
    split at h
    · cases h; exact r2_or1 (ra_tup ‹_›)
    · cases h
  case h_4 =>
    split at h
    · cases h; exact r2n_or2 (catLN ‹_›)
    · cases h
  case h_5 => cases h; exact r2_int
  case h_6 =>
    split at h
    · cases h; exact r2_or1 (r2_intC ‹_›)
    · cases h
  case h_7 =>
    split at h
    · rename_i hh
      cases h
      exact r2_or2 (mulT hh.1 hh.2.1 hh.2.2)
    · cases h
  case h_8 =>
    split at h
    · rename_i hh
      cases h
      exact r2n_or2 (r2n_or2 (r2n_or2 (r2n_or2 (repLN hh.1 hh.2.1 hh.2.2))))
    · cases h
  case h_9 =>
    split at h
    · cases h; exact r2_intC ‹_›
    · cases h
  case h_10 =>
    split at h
    · cases h; exact r2_intC ‹_›
    · cases h
  case h_11 =>
    split at h
    · rename_i hh
      cases h; exact r2_intC (C := CPow) (f := fun i j => i ^ j.toNat) hh
    · cases h
  case h_12 => cases h; exact r2_or2 fun F H x y Q f a b q => ⟨by rw [a.str, b.str]; rfl, by rw [a.str, b.str, dec_str]; exact q _ F H (.at (.bl _))⟩
  case h_14 => cases h; exact r2_or2 fun F H x y Q f a b q => ⟨by rw [a.str, b.str]; rfl, by rw [a.str, b.str, dec_str]; exact q _ F H (.at (.bl _))⟩
  case h_13 =>
    split at h
    · rename_i hh
      cases h; exact r2_or1 (r2_eqD hh.1 hh.2)
    · cases h
  case h_15 =>
    split at h
    · rename_i hh
      cases h; exact r2_or1 (r2_neD hh.1 hh.2)
    · cases h
  case h_16 => cases h; exact r2_or1 (r2_bl (f := fun i j => decide (i < j)))
  case h_17 =>
    split at h
    · rename_i hh
      cases h; exact r2_or2 (r2_ltD hh.1 (fun z => nomatch z) hh.2.1 hh.2.2.1 hh.2.2.2)
    · cases h
  case h_18 =>
    split at h
    · rename_i hh
      cases h; exact r2_or2 (r2_ltD hh.1 (fun z => nomatch z) hh.2.1 hh.2.2.1 hh.2.2.2)
    · cases h
  case h_19 => cases h; exact r2_bl (f := fun i j => decide (i ≤ j))
  case h_20 => cases h; exact r2_bl (f := fun i j => decide (j < i))
  case h_21 => cases h; exact r2_bl (f := fun i j => decide (j ≤ i))
  case h_22 =>
    split at h
    · rename_i hh
      cases h; exact ri_dat hh.1 hh.2
    · cases h
  case h_23 =>
    split at h
    · rename_i hh
      cases h; exact fun F H x l Q f a b q => .inl (inT (neg := false) hh.1 hh.2 F H x l Q f a b q)
    · cases h
  case h_24 =>
    split at h
    · rename_i hh
      cases h; exact rn_dat hh.1 hh.2
    · cases h
  case h_25 =>
    split at h
    · rename_i hh
      cases h; exact fun F H x l Q f a b q => .inl (inT (neg := true) hh.1 hh.2 F H x l Q f a b q)
    · cases h
  case h_26 =>
    obtain ⟨a, h1, rfl⟩ := Option.map_eq_some_iff.mp h
    exact rx_L h1
  case h_27 =>
    obtain ⟨a, h1, rfl⟩ := Option.map_eq_some_iff.mp h
    exact rx_T h1
  case h_28 =>
    split at h
    · rename_i hh
      obtain ⟨a, h1, rfl⟩ := Option.map_eq_some_iff.mp h
      exact rx_S hh h1
    · cases h
  case h_29 => cases h
end EV
namespace DL
open PySem PySem.Spec PyProof.Rows L2
def tCallE (te : TE) (S : Addr → Option Sp) (t : TA) : TE := fun σ H Q => te σ H fun v H1 => ∃ f sp, v = .ref f ∧ S f = some sp ∧ t σ H1 fun vs H2 => sp vs H2 Q (fun _ _ _ => False)
variable [TabC]
def tCallEF (K : PySem.W.Frag) (te : TE) (tbl : List (Addr × (List D → Option RetV))) (t : TA) : TE := tCallE te (fun a => (tblF tbl a).map fun f => spD (fun ds r => f ds = some r) K) t
section
variable {K : PySem.W.Frag} {g : Gm} {te : TE} {t : TA} {ρ ρ1 ρ2 : Rho} {As : List Arg} {ds : List D} {a : Addr} {tbl : List (Addr × (List D → Option RetV))} {f : List D → Option RetV}
theorem ed_callE {d : D} (h0 : EvD g te ρ (fnD a) ρ1) (hf : tblF tbl a = some f) (ha : EvA g t ρ1 As ρ2) (hR : f ds = some (.dat d)) (hd : datas As = some ds := by rfl) : EvD g (tCallEF g.K te tbl t) ρ d ρ2 := fun c F H σ k s Q q => h0 c F H σ k s _ fun v F1 H1 s1 e1 x => by
  have e := ed_call (g := g) (R := fun ds r => f ds = some r) (E := E0) ha hR hd c F1 H1 σ k s1 Q fun v F' H' s' e' x' => q v F' H' s' (e1.trans e') x'
  refine ⟨a, spD (fun ds r => f ds = some r) g.K, dx_fn x, by show (tblF tbl a).map _ = _; rw [hf]; rfl, ?_⟩
  have z : (fun (vs : List V) (H1 : Hp) => spD (fun ds r => f ds = some r) g.K (vs ++ []) H1 Q E0) = fun vs H1 => spD (fun ds r => f ds = some r) g.K vs H1 Q (fun _ _ _ => False) := by
    funext vs H1
    rw [List.append_nil]
  rw [← z]
  exact e
theorem ew_callE {w : Ow} (h0 : EvD g te ρ (fnD a) ρ1) (hf : tblF tbl a = some f) (ha : EvA g t ρ1 As ρ2) (hR : f ds = some (.new w)) (hd : datas As = some ds := by rfl) : EvW g (tCallEF g.K te tbl t) ρ w ρ2 := fun c F H σ k s Q q => h0 c F H σ k s _ fun v F1 H1 s1 e1 x => by
  have e := ew_call (g := g) (R := fun ds r => f ds = some r) (E := E0) ha hR hd c F1 H1 σ k s1 Q fun p F' H' b e' => q p F' H' b (e1.trans e')
  refine ⟨a, spD (fun ds r => f ds = some r) g.K, dx_fn x, by show (tblF tbl a).map _ = _; rw [hf]; rfl, ?_⟩
  have z : (fun (vs : List V) (H1 : Hp) => spD (fun ds r => f ds = some r) g.K (vs ++ []) H1 Q E0) = fun vs H1 => spD (fun ds r => f ds = some r) g.K vs H1 Q (fun _ _ _ => False) := by
    funext vs H1
    rw [List.append_nil]
  rw [← z]
  exact e
end
end DL
namespace DL
open PySem PySem.Spec PyProof.Rows L2
variable [TabC]
def IteL (K : PySem.W.Frag) (a : Addr) : It :=
  ⟨fun i H => ∃ (xs : List V) (x : V), SqL K H a xs ∧ xs[i]? = some x,
    fun i H v H' => ∃ T x o, v = .ref T ∧ H T = none ∧ o.dict = none ∧ H' = upd H T (.frz o (.tup [.int (i : Nat), x])) ∧ ∀ xs, SqL K H a xs → xs[i]? = some x,
    fun i H => ∃ xs : List V, SqL K H a xs ∧ xs.length = i⟩
def iEnL (K : PySem.W.Frag) (ta : TA) : TI := fun σ H R => ta σ H fun vs H1 => ∃ a xs, vs = [.ref a] ∧ SqL K H1 a xs ∧ R (IteL K a) H1
section
variable {g : Gm} {te : TE} {ρ ρ1 : Rho} {ds : List D} {K : PySem.W.Frag}
theorem walk_enLD {F : Hp} {a : Addr} {vs : List V} (h : SqL K F a vs) (k : DxAll K F vs ds) : WalkD K F (IteL K a) ds.length (pairD ds) := fun F2 H2 e1 e2 => by
  have q : SqL K H2 a vs := slUp e2 (slUp e1 h)
  have hl := dpAllLen k
  refine ⟨fun i hi => ⟨vs, vs[i]'(by omega), q, by simp [show i < vs.length by omega]⟩, ⟨vs, q, hl⟩, fun i x H' hi y => ?_⟩
  obtain ⟨T, v, o, rfl, hT, ho, rfl, y⟩ := y
  obtain ⟨v', h1, h2⟩ := dpAllGet k (nthD_at hi)
  have := y vs q
  rw [h1] at this
  cases this
  exact ⟨_, .new hT ho (.cons (.int _) (.cons (dpUp e1 h2) .nil))⟩
theorem ei_enL (h : EvD g te ρ (.list ds) ρ1) : EvI g (iEnL g.K (tCons te tNil)) ρ ds.length (pairD ds) ρ1 := fun c F H σ k s R q => h c F H σ k s _ fun v F1 H1 s1 e1 x => by
  have kk : c.K = g.K := k.1
  cases x with
  | lst hs ha =>
    rw [kk] at hs ha
    exact ⟨_, _, rfl, slUp s1.fh hs, q _ F1 H1 s1 e1 (by rw [kk]; exact walk_enLD hs ha)⟩
end
end DL
namespace DL
open PySem PySem.Spec PyProof.Rows L2
/-- place by place -/
inductive AllP (Pt : Addr → Int × Int → Prop) : List V → List (Int × Int) → Prop
  | nil : AllP Pt [] []
  | cons {t : Addr} {p : Int × Int} {xs : List V} {ps : List (Int × Int)} : Pt t p → AllP Pt xs ps → AllP Pt (.ref t :: xs) (p :: ps)
def rSrtP (K : PySem.W.Frag) : List V → Hp → VK → Prop := fun vs H Q => ∃ (a : Addr) (xs : List V) (ps : List (Int × Int)) (Pt : Addr → Int × Int → Prop), vs = [V.ref a] ∧ SqL K H a xs ∧ (∀ t p, Pt t p → SqT K H t [.int p.1, .int p.2]) ∧ AllP Pt xs ps ∧
  ∀ ys zs d, zs.Perm ps → zs.Pairwise (fun x y => SrtO.lexB y x = false) → AllP Pt ys zs → H d = none → Q (.ref d) (upd H d (.lst ys))
def insP (x : Int × Int) : List (Int × Int) → List (Int × Int)
  | [] => [x]
  | y :: l => if SrtO.lexB y x = true then y :: insP x l else x :: y :: l
def sortP : List (Int × Int) → List (Int × Int)
  | [] => []
  | x :: l => insP x (sortP l)
abbrev pairI (p : Int × Int) : D := .tuple [.int p.1, .int p.2]
abbrev leP (x y : Int × Int) : Prop := SrtO.lexB y x = false
theorem leP_iff {x y : Int × Int} : leP x y ↔ x.1 < y.1 ∨ (x.1 = y.1 ∧ x.2 ≤ y.2) := by
  unfold leP
  rw [SrtO.lexB_no]
  omega
theorem insP_perm (x : Int × Int) : ∀ l, (insP x l).Perm (x :: l)
  | [] => .refl _
  | y :: l => by
    unfold insP
    split
    · exact ((insP_perm x l).cons y).trans (.swap x y l)
    · exact .refl _
theorem sortP_perm : ∀ l, (sortP l).Perm l
  | [] => .refl _
  | x :: l => (insP_perm x _).trans ((sortP_perm l).cons x)
theorem insP_sorted (x : Int × Int) : ∀ l, l.Pairwise leP → (insP x l).Pairwise leP
  | [], _ => by simp [insP]
  | y :: l, h => by
    unfold insP
    obtain ⟨h1, h2⟩ := List.pairwise_cons.mp h
    split
    · rename_i hx
      refine List.pairwise_cons.mpr ⟨fun z m => ?_, insP_sorted x l h2⟩
      rcases List.mem_cons.mp ((insP_perm x l).mem_iff.mp m) with m | m
      · rw [m]
        have := SrtO.lexB_iff.mp hx
        exact leP_iff.mpr (by omega)
      · exact h1 z m
    · rename_i hx
      have hx : leP x y := by
        cases q : SrtO.lexB y x with
        | true => exact absurd q hx
        | false => exact q
      refine List.pairwise_cons.mpr ⟨fun z m => ?_, h⟩
      rcases List.mem_cons.mp m with m | m
      · rw [m]; exact hx
      · have a := leP_iff.mp hx
        have b := leP_iff.mp (h1 z m)
        exact leP_iff.mpr (by omega)
theorem sortP_sorted : ∀ l, (sortP l).Pairwise leP
  | [] => .nil
  | x :: l => insP_sorted x _ (sortP_sorted l)
theorem sortP_one {a b : List (Int × Int)} (p : a.Perm b) (ha : a.Pairwise leP) : a = sortP b :=
  (p.trans (sortP_perm b).symm).eq_of_pairwise (fun x y _ _ h1 h2 => by
    have a := leP_iff.mp h1
    have b := leP_iff.mp h2
    exact Prod.ext (by omega) (by omega)) ha (sortP_sorted b)
variable [TabC]
theorem rc_srtP {K : PySem.W.Frag} {ps : List (Int × Int)} : RCN K (rSrtP K) [.list (ps.map pairI)] ((sortP ps).map pairI) := fun F H xs Q f a q => by
  obtain ⟨v, rfl, a1⟩ := a.one
  obtain ⟨p, vs, rfl, k1, k2⟩ := a1.list f
  have ap : ∀ {vs : List V} {ps : List (Int × Int)}, DxAll K F vs (ps.map pairI) → AllP (fun t p => TupX K F t [.int p.1, .int p.2]) vs ps := fun {vs ps} => by
    induction ps generalizing vs with
    | nil => intro h; cases h; exact .nil
    | cons p ps ih =>
      intro h
      cases h with
      | cons h1 h2 =>
        cases h1 with
        | tup hs ha =>
          have := dp_ints (ns := [p.1, p.2]) ha
          subst this
          exact .cons hs (ih h2)
  have pa : ∀ {vs : List V} {ps : List (Int × Int)}, AllP (fun t p => TupX K F t [.int p.1, .int p.2]) vs ps → DxAll K F vs (ps.map pairI) := fun {vs ps} h => by
    induction h with
    | nil => exact .nil
    | cons h1 _ ih => exact .cons (.tup h1 (.cons (.int _) (.cons (.int _) .nil))) ih
  refine ⟨p, vs, ps, _, rfl, k1, fun t p h => stUp f h.old, ap k2, fun ys zs d z1 z2 z3 z4 => ?_⟩
  exact q d ys z4 (by rw [← sortP_one z1 z2]; exact pa z3)
end DL
namespace DL
open PySem PySem.Spec PyProof.Rows L2
variable [TabC]
def uReprB (K : PySem.W.Frag) : List V → Hp → VK → Prop := fun xs H Q => uRepr K xs H Q ∨ (∃ b : Bool, xs = [.bl b] ∧ Q (.str (PyData.bool b).shown) H) ∨ (xs = [.non] ∧ Q (.str PyData.none.shown) H) ∨ ∃ x : Str, xs = [.str x] ∧ (PyData.str x).shown.length ≤ sizeLine ∧ Q (.str (PyData.str x).shown) H
theorem rc_uReprBD {K : PySem.W.Frag} {d : D} (hl : (∃ ds, d = .list ds) ∨ ∃ ds, d = .tuple ds) (h1 : d.showable = true) (h2 : d.hasDict = false) (h3 : d.depth ≤ 64) (h4 : d.shown.length ≤ sizeLine) : RCD K (uReprB K) [d] (.str d.shown) :=
  fun F H xs Q f a q => .inl (rc_uReprD hl h1 h2 h3 h4 F H xs Q f a q)
theorem rc_uReprBI {K : PySem.W.Frag} {i : Int} (h : i.natAbs.log2 < 1920) : RCD K (uReprB K) [.int i] (.str (toString i)) := fun F H xs Q f a q => .inl (rc_uReprI h F H xs Q f a q)
theorem rc_uReprBB {K : PySem.W.Frag} {b : Bool} : RCD K (uReprB K) [.bool b] (.str (PyData.bool b).shown) := fun F H xs Q f a q => by
  obtain ⟨v, rfl, a1⟩ := a.one
  have x := a1.dp f
  cases x
  exact .inr (.inl ⟨b, rfl, q _ F H (.at (.str _))⟩)
theorem rc_uReprBN {K : PySem.W.Frag} : RCD K (uReprB K) [.none] (.str PyData.none.shown) := fun F H xs Q f a q => by
  obtain ⟨v, rfl, a1⟩ := a.one
  have x := a1.dp f
  cases x
  exact .inr (.inr (.inl ⟨rfl, q _ F H (.at (.str _))⟩))
theorem rc_uReprBS {K : PySem.W.Frag} {x : Str} (h : (PyData.str x).shown.length ≤ sizeLine) : RCD K (uReprB K) [.str x] (.str (PyData.str x).shown) := fun F H xs Q f a q => by
  obtain ⟨v, rfl, a1⟩ := a.one
  have y := a1.dp f
  cases y
  exact .inr (.inr (.inr ⟨x, rfl, h, q _ F H (.at (.str _))⟩))
end DL
namespace EV
open PySem PySem.Spec PyProof.Rows L2 DL
variable [DL.TabC]
variable {K : PySem.W.Frag} {g : Gm}
inductive Bf where
  | len | abs | int | tuple | list | all | any | max | min | sum | sorted | repr | str
def intsOf : List D → Option (List Int)
  | [] => some []
  | .int i :: ds => (intsOf ds).map (i :: ·)
  | _ => none
def boolsOf : List D → Option (List Bool)
  | [] => some []
  | .bool i :: ds => (boolsOf ds).map (i :: ·)
  | _ => none
def strsOf : List D → Option (List Str)
  | [] => some []
  | .str i :: ds => (strsOf ds).map (i :: ·)
  | _ => none
theorem intsOf_eq : ∀ {ds : List D} {ns : List Int}, intsOf ds = some ns → ds = ns.map .int
  | [], ns, h => by cases h; rfl
  | .int i :: ds, ns, h => by
    obtain ⟨ms, h1, rfl⟩ := Option.map_eq_some_iff.mp (show (intsOf ds).map (i :: ·) = some ns from h)
    rw [intsOf_eq h1]; rfl
  | .none :: _, _, h | .bool _ :: _, _, h | .str _ :: _, _, h | .list _ :: _, _, h | .tuple _ :: _, _, h | .dict _ :: _, _, h => by cases h
theorem boolsOf_eq : ∀ {ds : List D} {ns : List Bool}, boolsOf ds = some ns → ds = ns.map .bool
  | [], ns, h => by cases h; rfl
  | .bool i :: ds, ns, h => by
    obtain ⟨ms, h1, rfl⟩ := Option.map_eq_some_iff.mp (show (boolsOf ds).map (i :: ·) = some ns from h)
    rw [boolsOf_eq h1]; rfl
  | .none :: _, _, h | .int _ :: _, _, h | .str _ :: _, _, h | .list _ :: _, _, h | .tuple _ :: _, _, h | .dict _ :: _, _, h => by cases h
theorem strsOf_eq : ∀ {ds : List D} {ns : List Str}, strsOf ds = some ns → ds = ns.map .str
  | [], ns, h => by cases h; rfl
  | .str i :: ds, ns, h => by
    obtain ⟨ms, h1, rfl⟩ := Option.map_eq_some_iff.mp (show (strsOf ds).map (i :: ·) = some ns from h)
    rw [strsOf_eq h1]; rfl
  | .none :: _, _, h | .int _ :: _, _, h | .bool _ :: _, _, h | .list _ :: _, _, h | .tuple _ :: _, _, h | .dict _ :: _, _, h => by cases h
@[simp] theorem intsOf_map : ∀ ns : List Int, intsOf (ns.map .int) = some ns
  | [] => rfl
  | n :: ns => by simp [intsOf, intsOf_map ns]
@[simp] theorem boolsOf_map : ∀ ns : List Bool, boolsOf (ns.map .bool) = some ns
  | [] => rfl
  | n :: ns => by simp [boolsOf, boolsOf_map ns]
@[simp] theorem strsOf_map : ∀ ns : List Str, strsOf (ns.map .str) = some ns
  | [] => rfl
  | n :: ns => by simp [strsOf, strsOf_map ns]
def insI (x : Int) : List Int → List Int
  | [] => [x]
  | y :: l => if x ≤ y then x :: y :: l else y :: insI x l
def sortI : List Int → List Int
  | [] => []
  | x :: l => insI x (sortI l)
theorem insI_perm (x : Int) : ∀ l : List Int, (insI x l).Perm (x :: l)
  | [] => .refl _
  | y :: l => by
    unfold insI
    split
    · exact .refl _
    · exact ((insI_perm x l).cons y).trans (.swap x y l)
theorem sortI_perm : ∀ l : List Int, (sortI l).Perm l
  | [] => .refl _
  | x :: l => (insI_perm x _).trans ((sortI_perm l).cons x)
theorem insI_sorted (x : Int) : ∀ l : List Int, l.Pairwise (· ≤ ·) → (insI x l).Pairwise (· ≤ ·)
  | [], _ => by simp [insI]
  | y :: l, h => by
    unfold insI
    obtain ⟨h1, h2⟩ := List.pairwise_cons.mp h
    split
    · rename_i hx
      refine List.pairwise_cons.mpr ⟨fun z m => ?_, h⟩
      rcases List.mem_cons.mp m with m | m
      · rw [m]; exact hx
      · have := h1 z m; omega
    · rename_i hx
      refine List.pairwise_cons.mpr ⟨fun z m => ?_, insI_sorted x l h2⟩
      rcases List.mem_cons.mp ((insI_perm x l).mem_iff.mp m) with m | m
      · omega
      · exact h1 z m
theorem sortI_sorted : ∀ l : List Int, (sortI l).Pairwise (· ≤ ·)
  | [] => .nil
  | x :: l => insI_sorted x _ (sortI_sorted l)
theorem sorted_one {a b : List Int} (p : a.Perm b) (ha : a.Pairwise (· ≤ ·)) (hb : b.Pairwise (· ≤ ·)) : a = b :=
  p.eq_of_pairwise (fun x y _ _ h1 h2 => by omega) ha hb
def pairsOf : List D → Option (List (Int × Int))
  | [] => some []
  | .tuple [.int i, .int j] :: r => (pairsOf r).map ((i, j) :: ·)
  | _ => none
theorem pairsOf_eq : ∀ {ds : List D} {ps : List (Int × Int)}, pairsOf ds = some ps → ds = ps.map pairI := fun {ds} => by
  induction ds with
  | nil => intro ps h; cases h; rfl
  | cons d r ih =>
    intro ps h
    unfold pairsOf at h
    split at h
    · rename_i e
      cases e
    · rename_i e
      cases e
      obtain ⟨qs, hq, rfl⟩ := Option.map_eq_some_iff.mp h
      rw [ih hq]
      rfl
    · cases h
def sortD (ds : List D) : Option (List D) := match intsOf ds with
  | some ns => some ((sortI ns).map .int)
  | none => (pairsOf ds).map fun ps => (sortP ps).map pairI
def cb1 : Bf → List D → Option Rz
  | .len, [.list ds] => some (.d (.int ds.length))
  | .len, [.tuple ds] => some (.d (.int ds.length))
  | .abs, [.int i] => some (.d (.int (if i < 0 then -i else i)))
  | .int, [.int i] => some (.d (.int i))
  | .int, [.bool b] => some (.d (.int (if b then 1 else 0)))
  | .tuple, [.list ds] => some (.d (.tuple ds))
  | .list, [.list ds] => some (.n ds)
  | .list, [.tuple ds] => some (.n ds)
  | .list, [.dict ds] => (unK ds).map fun kvs => .n (kvs.map fun p => keyOf p.1)
  | .len, [.dict ds] => (unK ds).map fun kvs => .d (.int kvs.length)
  | .all, [.list ds] => (boolsOf ds).map fun bs => .d (.bool (bs.all id))
  | .any, [.list ds] => (boolsOf ds).map fun bs => .d (.bool (bs.any id))
  | .max, [.list ds] => (intsOf ds).bind fun ns => match ns with | [] => none | n :: ns => some (.d (.int (ns.foldl max n)))
  | .max, [.tuple ds] => (intsOf ds).bind fun ns => match ns with | [] => none | n :: ns => some (.d (.int (ns.foldl max n)))
  | .min, [.list ds] => (intsOf ds).bind fun ns => match ns with | [] => none | n :: ns => some (.d (.int (ns.foldl min n)))
  | .min, [.tuple ds] => (intsOf ds).bind fun ns => match ns with | [] => none | n :: ns => some (.d (.int (ns.foldl min n)))
  | .max, [.int i, .int j] => some (.d (.int (if j > i then j else i)))
  | .min, [.int i, .int j] => some (.d (.int (if j < i then j else i)))
  | .sum, [.list ds] => (intsOf ds).map fun ns => .d (.int ns.sum)
  | .sorted, [.list ds] => (sortD ds).map fun zs => .n zs
  | .repr, [.int i] => if i.natAbs.log2 < 1920 then some (.d (.str (toString i))) else none
  | .repr, [.list ds] => if (PyData.list ds).showable = true ∧ (PyData.list ds).hasDict = false ∧ (PyData.list ds).depth ≤ 64 ∧ (PyData.list ds).shown.length ≤ sizeLine then some (.d (.str (PyData.list ds).shown)) else none
  | .repr, [.tuple ds] => if (PyData.tuple ds).showable = true ∧ (PyData.tuple ds).hasDict = false ∧ (PyData.tuple ds).depth ≤ 64 ∧ (PyData.tuple ds).shown.length ≤ sizeLine then some (.d (.str (PyData.tuple ds).shown)) else none
  | .repr, [.bool b] => some (.d (.str (PyData.bool b).shown))
  | .repr, [.none] => some (.d (.str PyData.none.shown))
  | .repr, [.str x] => if (PyData.str x).shown.length ≤ sizeLine then some (.d (.str (PyData.str x).shown)) else none
  | .str, [.int i] => if i.natAbs.log2 < 1920 then some (.d (.str (toString i))) else none
  | .len, [.str x] => if x.length ≤ sizeLine then some (.d (.int x.length)) else none
  | _, _ => none
abbrev CRd := List V → Hp → VK → Prop
def rMax2 : CRd := fun xs H Q => ∃ i j, xs = [.int i, .int j] ∧ Q (.int (if j > i then j else i)) H
def rMin2 : CRd := fun xs H Q => ∃ i j, xs = [.int i, .int j] ∧ Q (.int (if j < i then j else i)) H
def rStrI : CRd := fun xs H Q => ∃ i : Int, xs = [.int i] ∧ i.natAbs.log2 < 1920 ∧ Q (.str (toString i)) H
def rLenS : CRd := fun xs H Q => ∃ z, xs = [.str z] ∧ z.length ≤ sizeLine ∧ Q (.int z.length) H
def bfK (K : PySem.W.Frag) : Bf → CRd
  | .len => fun xs H Q => (DL.rLen K xs H Q ∨ ∃ a kvs, xs = [V.ref a] ∧ H a = some (.dK kvs) ∧ Q (.int kvs.length) H) ∨ rLenS xs H Q
  | .abs => DL.rAbs
  | .int => DL.rInt1
  | .tuple => DL.rTuple K
  | .list => fun xs H Q => DL.rList K xs H Q ∨ rListD xs H Q
  | .all => rAll K
  | .any => rAny K
  | .max => fun xs H Q => uMax K xs H Q ∨ rMax2 xs H Q
  | .min => fun xs H Q => uMin K xs H Q ∨ rMin2 xs H Q
  | .sum => rSum K
  | .sorted => fun xs H Q => rSortedI K xs H Q ∨ rSrtP K xs H Q
  | .repr => uReprB K
  | .str => rStrI
theorem CallR.or {X : Cx} {f : Value} {r r' : CRd} (h : CallR X f r) (h' : CallR X f r') : CallR X f (fun xs H Q => r xs H Q ∨ r' xs H Q) := by
  intro pins s σ H xs us Q I r q
  rcases q with q | q
  · exact h pins s σ H xs us Q I r q
  · exact h' pins s σ H xs us Q I r q
theorem cf_len {X : Cx} : CallR X (.builtin "len") (bfK X.K .len) := CallR.or (CallR.or cr_len call_lenD) L2.call_len_str
theorem cf_abs {X : Cx} : CallR X (.builtin "abs") (bfK X.K .abs) := cr_abs
theorem cf_int {X : Cx} : CallR X (.type "int") (bfK X.K .int) := cr_int
theorem cf_tuple {X : Cx} : CallR X (.type "tuple") (bfK X.K .tuple) := cr_tuple
theorem cf_list {X : Cx} (hc : X.calm = true := by rfl) : CallR X (.type "list") (bfK X.K .list) := CallR.or cr_list (call_list_dK hc)
theorem cf_any {X : Cx} (hc : X.calm = true) : CallR X (.builtin "any") (bfK X.K .any) := cr_any hc
def CzOk (K : PySem.W.Frag) (r : CRd) (ds : List D) : Rz → Prop
  | .d z => RCD K r ds z
  | .n zs => RCN K r ds zs
theorem rc_two {f : Int → Int → Int} {i j : Int} : RCD K (fun xs H Q => ∃ i j, xs = [.int i, .int j] ∧ Q (.int (f i j)) H) [.int i, .int j] (.int (f i j)) := fun F H xs Q _ a q => by
  obtain ⟨v, w, rfl, a1, a2⟩ := a.two
  exact ⟨i, j, by rw [a1.int, a2.int], q _ F H (.at (.int _))⟩
theorem rc_sum {ns : List Int} : RCD K (rSum K) [.list (ns.map .int)] (.int ns.sum) := fun F H xs Q f a q => by
  obtain ⟨v, rfl, a1⟩ := a.one
  obtain ⟨p, vs, rfl, h1, k1⟩ := a1.list f
  rw [dp_ints k1] at h1
  exact ⟨p, ns, rfl, h1, q _ F H (.at (.int _))⟩
theorem rc_strI {i : Int} (h : i.natAbs.log2 < 1920) : RCD K rStrI [.int i] (.str (toString i)) := fun F H xs Q f a q => by
  obtain ⟨v, rfl, a1⟩ := a.one
  exact ⟨i, by rw [a1.int], h, q _ F H (.at (.str _))⟩
theorem rcd_or1 {r r' : CRd} {ds : List D} {z : D} (h : RCD K r ds z) : RCD K (fun xs H Q => r xs H Q ∨ r' xs H Q) ds z := fun F H xs Q f a q => .inl (h F H xs Q f a q)
theorem rcn_or1 {r r' : CRd} {ds zs : List D} (h : RCN K r ds zs) : RCN K (fun xs H Q => r xs H Q ∨ r' xs H Q) ds zs := fun F H xs Q f a q => .inl (h F H xs Q f a q)
theorem rcn_or2 {r r' : CRd} {ds zs : List D} (h : RCN K r' ds zs) : RCN K (fun xs H Q => r xs H Q ∨ r' xs H Q) ds zs := fun F H xs Q f a q => .inr (h F H xs Q f a q)
theorem rcd_or2 {r r' : CRd} {ds : List D} {z : D} (h : RCD K r' ds z) : RCD K (fun xs H Q => r xs H Q ∨ r' xs H Q) ds z := fun F H xs Q f a q => .inr (h F H xs Q f a q)
theorem rc_lenS {x : Str} (h : x.length ≤ sizeLine) : RCD K rLenS [.str x] (.int x.length) := fun F H xs Q f a q => by
  obtain ⟨v, rfl, a1⟩ := a.one
  exact ⟨x, by rw [a1.str], h, q _ F H (.at (.int _))⟩
theorem cb1_ok (f : Bf) (ds : List D) (z : Rz) (h : cb1 f ds = some z) : CzOk K (bfK K f) ds z := by
  revert h
  unfold cb1
  split <;> intro h
  case h_1 => cases h; exact rcd_or1 (rcd_or1 rc_lenL)
  case h_2 => cases h; exact rcd_or1 (rcd_or1 rc_lenT)
  case h_3 => cases h; exact rc_abs
  case h_4 => cases h; exact rc_int
  case h_5 => cases h; exact rc_intB
  case h_6 => cases h; exact rc_tupL
  case h_7 => cases h; exact rcn_or1 rc_listL
  case h_8 => cases h; exact rcn_or1 rc_listT
  case h_9 =>
    obtain ⟨kvs, h1, rfl⟩ := Option.map_eq_some_iff.mp h
    exact rcn_or2 (rc_listK h1)
  case h_10 =>
    obtain ⟨kvs, h1, rfl⟩ := Option.map_eq_some_iff.mp h
    exact rcd_or1 (rcd_or2 (rc_lenK h1))
  case h_11 =>
    obtain ⟨bs, h1, rfl⟩ := Option.map_eq_some_iff.mp h
    rw [boolsOf_eq h1]; exact rc_all
  case h_12 =>
    obtain ⟨bs, h1, rfl⟩ := Option.map_eq_some_iff.mp h
    rw [boolsOf_eq h1]; exact rc_any
  case h_13 =>
    obtain ⟨ns, h1, h2⟩ := Option.bind_eq_some_iff.mp h
    rw [intsOf_eq h1]
    cases ns with
    | nil => cases h2
    | cons n ns => cases h2; exact rcd_or1 rc_maxL
  case h_14 =>
    obtain ⟨ns, h1, h2⟩ := Option.bind_eq_some_iff.mp h
    rw [intsOf_eq h1]
    cases ns with
    | nil => cases h2
    | cons n ns => cases h2; exact rcd_or1 rc_maxT
  case h_15 =>
    obtain ⟨ns, h1, h2⟩ := Option.bind_eq_some_iff.mp h
    rw [intsOf_eq h1]
    cases ns with
    | nil => cases h2
    | cons n ns => cases h2; exact rcd_or1 rc_minU
  case h_16 =>
    obtain ⟨ns, h1, h2⟩ := Option.bind_eq_some_iff.mp h
    rw [intsOf_eq h1]
    cases ns with
    | nil => cases h2
    | cons n ns => cases h2; exact rcd_or1 rc_minT
  case h_17 => cases h; exact rcd_or2 (rc_two (f := fun i j => if j > i then j else i))
  case h_18 => cases h; exact rcd_or2 (rc_two (f := fun i j => if j < i then j else i))
  case h_19 =>
    obtain ⟨ns, h1, rfl⟩ := Option.map_eq_some_iff.mp h
    rw [intsOf_eq h1]; exact rc_sum
  case h_20 =>
    obtain ⟨zs, h1, rfl⟩ := Option.map_eq_some_iff.mp h
    unfold sortD at h1
    split at h1
    · rename_i ns h2
      cases h1
      rw [intsOf_eq h2]; exact rcn_or1 (rc_sorted fun ns' p s => sorted_one (p.trans (sortI_perm ns).symm) s (sortI_sorted ns))
    · obtain ⟨ps, h3, rfl⟩ := Option.map_eq_some_iff.mp h1
      rw [pairsOf_eq h3]; exact rcn_or2 rc_srtP
  case h_21 =>
    split at h
    · cases h; exact rc_uReprBI ‹_›
    · cases h
  case h_22 =>
    split at h
    · rename_i hh
      cases h; exact rc_uReprBD (.inl ⟨_, rfl⟩) hh.1 hh.2.1 hh.2.2.1 hh.2.2.2
    · cases h
  case h_23 =>
    split at h
    · rename_i hh
      cases h; exact rc_uReprBD (.inr ⟨_, rfl⟩) hh.1 hh.2.1 hh.2.2.1 hh.2.2.2
    · cases h
  case h_24 => cases h; exact rc_uReprBB
  case h_25 => cases h; exact rc_uReprBN
  case h_26 =>
    split at h
    · cases h; exact rc_uReprBS ‹_›
    · cases h
  case h_27 =>
    split at h
    · cases h; exact rc_strI ‹_›
    · cases h
  case h_28 =>
    split at h
    · cases h; exact rcd_or2 (rc_lenS ‹_›)
    · cases h
  case h_29 => cases h
end EV
namespace DL
open PySem PySem.Spec PyProof.Rows L2
abbrev Su := Addr → Value → Option Addr → TS
def wiped (i : Nat) (D : Ends) : Ends where
  nx τ G := D.nx (τ.set i none) G
  rt := D.rt
  bk τ G := D.bk (τ.set i none) G
  ct τ G := D.ct (τ.set i none) G
/-- what the clauses wish, one after the other -/
def wNmd (K : PySem.W.Frag) (i : Nat) (W0 : WX) (D : Ends) : List (Value × Su) → WX
  | [] => W0
  | q :: r => fun C d τ G => ∃ b, PySem.W.exmOne K C q.1 = some b ∧ (if b then ∀ p, G p = none → q.2 p C d (wiped i D) (τ.set i (some (.ref p))) G else wNmd K i W0 D r C d τ G)
section
variable {X : Cx} {n : Str} {i : Nat} {W0 : WX}
/-- the exception at p has landed -/
structure Here (X : Cx) (pins : List (Addr × Obj)) (τ : L2.St) (G : Hp) (B : Heap) (p : Addr) (C : Value) (d : Option Addr) (s : Shared) (sI : Shared) : Prop where
  inv : Inv X pins τ G sI
  old : ∀ q o, sI.heap.get? q = some o → q ∉ frs X.stack → B.get? q = some o
  os : s.os = sI.os
  ag : AllBare s.gens
  up : sI.heap.UpToSlots s.heap
  fly : HandSPX.FlyingZ B (X.env :: X.outer) p (Zc C d) s.heap
  free : G p = none
variable {pins : List (Addr × Obj)} {τ : L2.St} {G : Hp} {B : Heap} {p : Addr} {C : Value} {d : Option Addr} {s sI : Shared}
/-- no clause is left: it flies on -/
theorem Here.on (y : Here X pins τ G B p C d s sI) (hs : X.stack = X.env :: X.outer) (hf : X.env.frame = some X.env.locals) (tk : Takes X W0) {R : Flow → Shared → Prop} (w : W0 C d τ G) :
    wpAny (model X.prog X.w) X.A (handleBy (.ref p) X.env []) R X.xe s := by
  obtain ⟨_, _, _, o, vs, T, _, _, e, _, dt, e1, _⟩ := id y.fly
  have last : wpAny (model X.prog X.w) X.A (setFlight (.ref p) X.env.frame) (fun _ t => wpAny (model X.prog X.w) X.A (throw (.ref p) : Sem Flow) R X.xe t) X.xe s := by
    rw [hf]
    exact HandSPX.setFlight_upZ y.fly fun h2 k2 u2 => wpAny_throw (tk _ _ ⟨p, B, sI, pins, τ, G, C, d, rfl, y.inv, y.old, y.up.trans u2, by rw [hs]; exact .inr (.inr k2), y.free, y.os, y.ag, w⟩)
  refine wpAny_handleBy_nil ?_
  unfold PySem.passOn
  refine wpAny_bind (wpAny_field e dt e1 ?_)
  rw [if_neg (by simp : ¬ (Value.ref T == Value.none) = true)]
  first
    | exact wpAny_bind (wpAny_pure (wpAny_bind last))
    | exact wpAny_bind last
end
end DL
namespace DL
open PySem PySem.Spec PyProof.Rows L2
variable [TabC]
inductive Tz where
  | one (c : Addr)
  | any (cs : List Addr)
  | nt (t : Tz)
  | an (t u : Tz)
  | or (t u : Tz)
/-- what a clause gives back -/
inductive Hx where
  | tst (t : Tz)
  | pick (x y : Str) (t : Tz)
  | pair (x : Str) (t : Tz)
  | non
  | bl (b : Bool)
  | int (n : Int)
  | str (x : Str)
def sub (S C c : Addr) : Bool := decide (C = c ∨ c = S)
def evZ (S C : Addr) : Tz → Bool
  | .one c => sub S C c
  | .any cs => cs.any (sub S C)
  | .nt t => !evZ S C t
  | .an t u => evZ S C t && evZ S C u
  | .or t u => evZ S C t || evZ S C u
def evHx (S C : Addr) : Hx → D
  | .tst t => .bool (evZ S C t)
  | .pick x y t => .str (if evZ S C t then y else x)
  | .pair x t => .tuple [.str x, .bool (evZ S C t)]
  | .non => .none
  | .bl b => .bool b
  | .int n => .int n
  | .str x => .str x
def evHs (S C : Addr) : List (Addr × Hx) → Option D
  | [] => none
  | h :: r => if sub S C h.1 then some (evHx S C h.2) else evHs S C r
def denZ (K : PySem.W.Frag) (i : Nat) (a : Addr) (cls : Value) (d : Option Addr) : Tz → TE
  | .one c => tCB (rIsX K a cls d) (tCons (tVar i) (tCons (tC (.ref c)) tNil))
  | .any cs => tCB (rIsX K a cls d) (tCons (tVar i) (tCons (tTup (tRefs cs)) tNil))
  | .nt t => tNotV (denZ K i a cls d t)
  | .an t u => tAndV (denZ K i a cls d t) (denZ K i a cls d u)
  | .or t u => tOrV (denZ K i a cls d t) (denZ K i a cls d u)
/-- the classes that are named -/
def tzN : Tz → List Addr
  | .one c => [c]
  | .any cs => cs
  | .nt t => tzN t
  | .an t u => tzN t ++ tzN u
  | .or t u => tzN t ++ tzN u
def tzL : Tz → Bool
  | .one _ => true
  | .any cs => decide (cs.length ≤ 1000)
  | .nt t => tzL t
  | .an t u => tzL t && tzL u
  | .or t u => tzL t && tzL u
def KClz (K : PySem.W.Frag) (S C : Addr) : Prop := ExcC K C ∧ PySem.W.isClsIn K C = true ∧ PySem.W.typeIn K (.ref C) = some (.type "type") ∧ PySem.W.subIn K (.ref C) (.ref C) = some true ∧ PySem.W.subIn K (.ref C) (.ref S) = some true
def KTwz (K : PySem.W.Frag) (p q : Addr) : Prop := PySem.W.subIn K (.ref p) (.ref q) = some false ∧ PySem.W.subIn K (.ref q) (.ref p) = some false
/-- S the class above, cs classes beneath it, none above another -/
def KsOk (K : PySem.W.Frag) (S : Addr) (cs : List Addr) : Prop :=
  (PySem.W.subIn K (.ref S) (.type "BaseException") = some true ∧ PySem.W.isClsIn K S = true ∧ PySem.W.typeIn K (.ref S) = some (.type "type")) ∧ (∀ C ∈ cs, KClz K S C) ∧ cs.Pairwise (KTwz K)
theorem ks_two {K : PySem.W.Frag} {cs : List Addr} (h : cs.Pairwise (KTwz K)) : ∀ {C c : Addr}, C ∈ cs → c ∈ cs → C = c ∨ PySem.W.subIn K (.ref C) (.ref c) = some false := by
  induction h with
  | nil => intro _ _ m; cases m
  | cons h1 _ ih =>
    intro C c m1 m2
    rcases List.mem_cons.mp m1 with e1 | k1 <;> rcases List.mem_cons.mp m2 with e2 | k2
    · exact .inl (e1.trans e2.symm)
    · rw [e1]; exact .inr (h1 _ k2).1
    · rw [e2]; exact .inr (h1 _ k1).2
    · exact ih k1 k2
theorem ks_sub {K : PySem.W.Frag} {S C c : Addr} {cs : List Addr} (h : KsOk K S cs) (m : C ∈ cs) (m2 : c = S ∨ c ∈ cs) : PySem.W.subIn K (.ref C) (.ref c) = some (sub S C c) ∧ PySem.W.isClsIn K c = true ∧ PySem.W.typeIn K (.ref c) = some (.type "type") := by
  obtain ⟨h1, h2, h3⟩ := h
  unfold sub
  rcases m2 with rfl | m2
  · simp only [or_true, decide_true]
    exact ⟨(h2 C m).2.2.2.2, h1.2.1, h1.2.2⟩
  · refine ⟨?_, (h2 c m2).2.1, (h2 c m2).2.2.1⟩
    rcases ks_two h3 m m2 with rfl | e
    · simp only [true_or, decide_true]
      exact (h2 C m).2.2.2.1
    · by_cases z : c = S
      · subst z
        simp only [or_true, decide_true]
        exact (h2 C m).2.2.2.2
      · by_cases y : C = c
        · subst y
          rw [(h2 C m).2.2.2.1] at e
          cases e
        · simp only [z, y, or_self, decide_false]
          exact e
theorem ks_kit {K : PySem.W.Frag} {S C c : Addr} {cs : List Addr} (h : KsOk K S cs) (m : C ∈ cs) (m2 : c = S ∨ c ∈ cs) : PySem.W.kitOne K (.ref C) (.ref c) = some (sub S C c) := by
  obtain ⟨k1, k2, k3⟩ := ks_sub h m m2
  unfold PySem.W.kitOne PySem.W.kitCls
  have h5 : (PySem.W.clsIn K c).isSome = true := k2
  split
  · rename_i z
    have z := eq_of_beq z
    injection z with z
    unfold sub
    simp [z]
  · simp [k3, k1, h5]
theorem ks_exm {K : PySem.W.Frag} {S C c : Addr} {cs : List Addr} (h : KsOk K S cs) (m : C ∈ cs) (m2 : c = S ∨ c ∈ cs) : PySem.W.exmOne K (.ref C) (.ref c) = some (sub S C c) := by
  obtain ⟨k1, k2, k3⟩ := ks_sub h m m2
  have k4 : PySem.W.subIn K (.ref c) (.type "BaseException") = some true := by
    rcases m2 with rfl | m2
    · exact h.1.1
    · exact (h.2.1 c m2).1.hs
  unfold PySem.W.exmOne PySem.W.kitCls
  have h5 : (PySem.W.clsIn K c).isSome = true := k2
  simp [k4, k3, k1, h5]
theorem ks_any {K : PySem.W.Frag} {S C : Addr} {cs : List Addr} (h : KsOk K S cs) (m : C ∈ cs) : ∀ {l : List Addr}, (∀ c ∈ l, c = S ∨ c ∈ cs) → PySem.W.kitAny K (.ref C) (l.map Value.ref) = some (l.any (sub S C))
  | [], _ => rfl
  | c :: l, hl => by
    have e := ks_kit h m (hl c List.mem_cons_self)
    have e2 := ks_any h m (l := l) fun c mc => hl c (List.mem_cons_of_mem _ mc)
    rw [List.map_cons, List.any_cons]
    unfold PySem.W.kitAny
    rw [e]
    cases sub S C c with
    | true => rfl
    | false => simpa using e2
section
variable {K : PySem.W.Frag} {g : Gm} {ρ : Rho} {i : Nat} {a S C : Addr} {cs : List Addr}
theorem var_fn {c : Cc} {F H : Hp} {σ : L2.St} (h : ρ[i]? = some (.dat (fnD a))) (s : Sim c F H σ ρ) : σ[i]? = some (some (.ref a)) := by
  obtain ⟨v, e, x⟩ := s.dat h
  rw [e, dx_fn x]
theorem ed_z (hk : KsOk g.K S cs) (m : C ∈ cs) (h : ρ[i]? = some (.dat (fnD a))) : ∀ {t : Tz}, (∀ c ∈ tzN t, c = S ∨ c ∈ cs) → tzL t = true → EvD g (denZ g.K i a (.ref C) none t) ρ (.bool (evZ S C t)) ρ
  | .one c, hn, _ => fun cc F H σ k s Q q => by
    refine ⟨_, var_fn h s, C, rfl, rfl, (hk.2.1 C m).1, .inl ⟨c, _, rfl, ks_kit hk m (hn c List.mem_cons_self), ?_⟩⟩
    exact q _ F H s (Same.refl _) (.bl _)
  | .any l, hn, hl => fun cc F H σ k s Q q => by
    have hl : l.length ≤ 1000 := of_decide_eq_true hl
    refine ⟨_, var_fn h s, tRefs_ok l σ H _ ⟨by rw [List.length_map, sizeLine_eq]; omega, fun p hp => ⟨C, rfl, rfl, (hk.2.1 C m).1, .inr ⟨p, l, _, rfl, upd_same, ks_any hk m hn, ?_⟩⟩⟩⟩
    exact q _ F _ (s.heap hp) (Same.refl _) (.bl _)
  | .nt t, hn, hl => ed_not (ed_z hk m h hn hl)
  | .an t u, hn, hl => by
    have hl := Bool.and_eq_true_iff.mp hl
    exact ed_and (ed_z hk m h (fun c mc => hn c (List.mem_append_left _ mc)) hl.1) fun _ => ed_z hk m h (fun c mc => hn c (List.mem_append_right _ mc)) hl.2
  | .or t u, hn, hl => by
    have hl := Bool.and_eq_true_iff.mp hl
    exact ed_or (ed_z hk m h (fun c mc => hn c (List.mem_append_left _ mc)) hl.1) fun _ => ed_z hk m h (fun c mc => hn c (List.mem_append_right _ mc)) hl.2
end
end DL
namespace DL
open PySem PySem.Spec PyProof.Rows L2
variable {X : Cx} {pins : List (Addr × Obj)} {σ : L2.St} {H : Hp} {s : Shared} {P : Addr}
theorem tabP_keeps {h h' : Heap} (t : tabP P h) (k : ∀ o, h.get? P = some o → h'.get? P = some o) : tabP P h' := let ⟨ps, e, q⟩ := t; ⟨ps, k _ e, q⟩
/-- the table's object is another one, all else stays -/
theorem inv_ext {h' : Heap} {g' : Array GenState} {d' : Drawn} {t' : Nat} (I : Inv X pins σ H s) (hP : H P = some (.ext (tabP P))) (k : ∀ b o, b ≠ P → s.heap.get? b = some o → h'.get? b = some o) (hm : tabP P h') (hg : AllBare g') :
    Inv X pins σ H { s with heap := h', gens := g', drawn := d', toks := t' } := by
  have ne : ∀ {b : Addr} {u : Option HO}, H b = u → u ≠ some (.ext (tabP P)) → b ≠ P := fun e q z => q (by rw [← e, z]; exact hP)
  refine I.step (ch := []) (fun b m => nomatch m) (fun b o _ _ _ e n => k b o (ne n nofun) e) (fun b o _ _ _ e n => ⟨o.slots, k b o (ne n nofun) e⟩) (fun _ _ _ _ n => n) (fun b o _ e => ?_) (fun _ _ e => e) (fun _ _ _ e => e) (fun b ps e => ⟨#[], by simpa using e⟩) (fun m n => ?_) (fun b u e => ?_) hg
  · by_cases q : b = P
    · obtain ⟨ps, e2, _⟩ := hm
      exact ⟨_, by rw [q]; exact e2⟩
    · exact ⟨o, k b o q e⟩
  · obtain ⟨o, es, ep, e, r⟩ := n
    exact ⟨o, es, ep, k _ o (ne I.free nofun) e, r⟩
  · by_cases q : b = P
    · subst q
      cases hP.symm.trans e
      exact ⟨hm, let ⟨_, e2, _⟩ := hm; ⟨_, e2⟩, fun h1 h2 t q => tabP_keeps t q⟩
    · refine (I.hok b u e).stay (fun d v hd g => k d v ?_ g) (fun _ g => g) fun _ _ g => g
      rcases hd with z | z
      · rw [z]; exact q
      · exact ne z nofun
/-- all old things but the table -/
def Old (P : Addr) (s s2 : Shared) : Prop := ∀ b o, b ≠ P → s.heap.get? b = some o → s2.heap.get? b = some o
/-- iter(v): a new iterator, that walks over n things -/
def IterAt (X : Cx) (s1 : Shared) (xv : Value) (fp : List Addr) (n : Nat) (SA : Nat → Value → Prop) : Prop :=
  ∀ (A : Around) (E : Value → Shared → Prop) (Q : Value → Shared → Prop), (∀ (o : Obj) (St : Nat → Heap → Prop), (∀ A' : Around, A'.handled = none → Walks X.prog X.w A' s1.heap.objs.size (s1.heap.objs.size :: fp) [s1.heap.objs.size] n SA St) → St 0 (s1.heap.push o) →
    Q (.ref s1.heap.objs.size) { s1 with heap := s1.heap.push o }) → wpAny (model X.prog X.w) A (pyIter xv) Q E s1
/-- the test, for the i-th thing -/
def TestOk (X : Cx) (s1 : Shared) (P : Addr) (scope : Scope) (x : Str) (elt : Expr) (SA : Nat → Value → Prop) (pb : Nat → Bool) : Prop :=
  ∀ (L : Addr) (code : Value) (bi : Addr) (A' : Around) (E' : Value → Shared → Prop) (i : Nat) (v : Value) (s2 : Shared) (m2 : Str → Option Value), A'.handled = none → A'.units ≤ X.A.units + 8 → SA i v → Old P s1 s2 →
    s2.heap.Ns L m2 → m2 x = some v → wpAny (model X.prog X.w) A' (eval elt (genEnv scope (cloFrom X.env.cells scope.names []) L code bi X.env)) (fun y s3 => y = .bool (pb i) ∧ Keeps s2 s3) E' s2
def trB (pb : Nat → Bool) (n j : Nat) : Bool := decide (j < n) && pb j
theorem gen_make {c : Addr} {elt iter : Expr} {x : Str} {px gpos : Pos} {scope : Scope} {k : Nat} {Q' : Value → Shared → Prop} (hr : Room k X.A) (TB : GxR.TabB X.base X.mg c P) (hcode : X.env.code = .ref c) (S : GxR.GenS X.env scope x) (hs : ∀ v, genFold iter X.env v = pure v)
    (h : wpAny (model X.prog X.w) X.A (eval iter X.env) (fun xv s1 => ∃ (H1 : Hp) (fp : List Addr) (n : Nat) (SA : Nat → Value → Prop) (pb : Nat → Bool), Inv X pins σ H1 s1 ∧ H1 P = some (.ext (tabP P)) ∧ IterAt X s1 xv fp n SA ∧ (∀ b ∈ fp, b ≠ P ∧ b < s1.heap.objs.size) ∧ TestOk X s1 P scope x elt SA pb ∧
      ∀ g s5, (∃ (fp wr : List Addr) (G : Array GenState → Array GenState → Prop) (F : Nat → Value → Prop) (St : Nat → Shared → Prop), WalksS X.prog X.w X.A.in1 g fp wr G n F St ∧ St 0 s5 ∧ TruthOf X.prog X.w X.A.in1 F (trB pb n) ∧ ∀ s', Moved wr G s5 s' → Inv X pins σ H1 s') → Q' (.ref g) s5) X.xe s) :
    wpAny (model X.prog X.w) X.A (eval (.GeneratorExp elt [⟨.Name x px, iter, [], 0⟩] scope gpos) X.env) Q' X.xe s := by
  refine wpAny_GeneratorExp_walksQD hr.hd S.co (closure_ok S.free) S.cell S.dot S.loc S.kind (by have := hr.dp; omega) ?_ hs
  refine wpAny_mono h (fun xv s1 hh => ?_) fun _ _ z => z
  obtain ⟨H1, fp, n, SA, pb, I1, hP, it, hfp, test, hQ⟩ := hh
  refine it _ _ _ fun o St W h0 => ?_
  obtain ⟨⟨ps, e1, tri⟩, _, _⟩ := (show ObjOk X.prog X.w H1 s1.heap P (.ext (tabP P)) from I1.hok P _ hP)
  have lt := Heap.lt_size e1
  have e2 : (s1.heap.push o).get? P = some { cls := .none, data := .fields ps } := Heap.get?_push_of_some _ e1
  have cd : PySem.W.CodeHd (s1.heap.push o) c P := TB.code.keeps fun b u e => Heap.get?_push_of_some _ (I1.bk b u e)
  obtain ⟨mc, hns, hlim⟩ := I1.nolimit
  have lim : s1.heap.NoLimit := ⟨mc, hns, hlim⟩
  have neS : cStatics ≠ P := fun z => by
    obtain ⟨o', es, ep, ho, hd, _⟩ := hns
    rw [z, e1] at ho
    cases ho
    cases hd
  have ltS : cStatics < s1.heap.objs.size := hns.lt
  have fin : ∀ (code : Value) (h3 : Heap) (tk : Nat) (qs : Array Value), Heap.ExtBut P (s1.heap.push o) h3 → (s1.heap.push o).objs.size ≤ h3.objs.size → h3.get? P = some { cls := .none, data := .fields qs } → TriplesOk qs.toList →
      wpAny (model X.prog X.w) X.A (builtinsFor X.env.globals X.env.builtins) (fun bi s₄ =>
        ∃ Ia fp wr n₀ Pf St₀ pz F, Value.ref s1.heap.objs.size = .ref Ia ∧ (∀ A' : Around, A'.handled = none → Walks X.prog X.w A' Ia fp wr n₀ Pf St₀) ∧ St₀ 0 s₄.heap ∧ (∀ b ∈ fp, b < s₄.heap.objs.size) ∧ s₄.heap.NoLimit ∧ cStatics ∉ wr ∧
          (∀ href : Heap, (∀ b o, s₄.heap.get? b = some o → href.get? b = some o) → QuietGenD X.prog X.w (genEnv scope (cloFrom X.env.cells scope.names []) s₄.heap.objs.size code bi X.env) x [] elt (List.range s₄.heap.objs.size) wr Pf pz F href (X.A.depth + 1) (X.A.units + 8)) ∧
          (∀ a h₅ tk gs, gs.bare = true → s₄.heap.objs.size < a → h₅.objs.size = a + 1 → (∀ b o, s₄.heap.get? b = some o → h₅.get? b = some o) →
            WalksS X.prog X.w X.A.in4 a (a :: s₄.heap.objs.size :: List.range s₄.heap.objs.size) (s₄.heap.objs.size :: wr) (GenOnlyQ s₄.gens.size) (passing pz n₀ 0).length
              (fun j y => ∃ i, (passing pz n₀ 0)[j]? = some i ∧ F i y) (GenAt X.prog X.w X.A.in4 a s₄.gens.size s₄.heap.objs.size (List.range s₄.heap.objs.size) wr pz n₀ F) →
            GenAt X.prog X.w X.A.in4 a s₄.gens.size s₄.heap.objs.size (List.range s₄.heap.objs.size) wr pz n₀ F 0 { s₄ with gens := s₄.gens.push gs, toks := tk, heap := h₅ } →
            Q' (.ref a) { s₄ with gens := s₄.gens.push gs, toks := tk, heap := h₅ })) X.xe { s1 with heap := h3, toks := tk } := by
    intro code h3 tk qs hx hsz hq tri2
    obtain ⟨bm, ob, a1, a2, a3, a4, a5, a6, a7, a8⟩ := TB.bm
    have sz : (s1.heap.push o).objs.size = s1.heap.objs.size + 1 := Heap.size_push ..
    have kp : ∀ b u, b ≠ P → s1.heap.get? b = some u → h3.get? b = some u := fun b u nb e => hx b u nb (Heap.get?_push_of_some _ e)
    refine wpAny_builtinsFor (m := X.mg) (by rw [I1.ok.glob]; exact ((I1.mod.glob.keeps I1.bk).push o).extBut hx TB.gP) a1 a2 (kp _ _ a4 (I1.bk _ _ a5)) a6 a7 a8 ?_
    refine ⟨s1.heap.objs.size, s1.heap.objs.size :: fp, [s1.heap.objs.size], n, SA, St, fun _ => true, fun i y => y = .bool (pb i), rfl, W, ?_, ?_, (lim.push o).extBut hx neS, ?_, ?_, ?_⟩
    · refine (W X.A hr.hd).frame _ _ _ h0 fun b hb u e => hx b u ?_ e
      rcases List.mem_cons.mp hb with z | z
      · rw [z]; exact Nat.ne_of_gt lt
      · exact (hfp b z).1
    · intro b hb
      show b < h3.objs.size
      have big : s1.heap.objs.size < h3.objs.size := Nat.lt_of_lt_of_le (by rw [sz]; exact Nat.lt_succ_self _) hsz
      rcases List.mem_cons.mp hb with z | z
      · rw [z]; exact big
      · exact Nat.lt_trans (hfp b z).2 big
    · intro z
      exact Nat.ne_of_lt ltS (List.mem_singleton.mp z)
    · intro href keep
      have big : s1.heap.objs.size < h3.objs.size := Nat.lt_of_lt_of_le (by rw [sz]; exact Nat.lt_succ_self _) hsz
      refine ⟨fun A' E' i v s2 m2 _ _ _ _ _ _ _ => ?_, fun A' E' i v s2 m2 hA _ hu hv _ hn hm hk => test _ _ _ A' E' i v s2 m2 hA hu hv (fun b u nb e => ?_) hn hm⟩
      · rw [List.forIn_nil]
        exact wpAny_pure ⟨rfl, GxR.keeps_refl _⟩
      · have bl := Heap.lt_size e
        exact hk b (List.mem_range.mpr (Nat.lt_trans bl big)) (fun z => Nat.ne_of_lt bl (List.mem_singleton.mp z)) u (keep b u (kp b u nb e))
    · intro g h5 tk5 gs bare _ _ keep5 W5 st
      simp only [GxR.passing_true, List.length_range] at W5
      have nw : ∀ b u, s1.heap.get? b = some u → b ∉ h3.objs.size :: [s1.heap.objs.size] := fun b u e m => by
        have bl := Heap.lt_size e
        rcases List.mem_cons.mp m with z | z
        · have big : s1.heap.objs.size < h3.objs.size := Nat.lt_of_lt_of_le (by rw [sz]; exact Nat.lt_succ_self _) hsz
          rw [z] at bl
          exact Nat.lt_irrefl _ (Nat.lt_trans bl big)
        · rw [List.mem_singleton.mp z] at bl
          exact Nat.lt_irrefl _ bl
      refine hQ g _ ⟨_, _, _, _, _, W5.in4_1, st, fun j y sj Qj Ej hy q => ?_, fun s' mv => ?_⟩
      · obtain ⟨i, hi, rfl⟩ := hy
        obtain ⟨hj, ej⟩ := List.getElem?_eq_some_iff.mp hi
        rw [List.getElem_range] at ej
        subst ej
        rw [List.length_range] at hj
        have q2 : Qj (trB pb n j) sj := q
        unfold trB at q2
        rw [decide_eq_true hj, Bool.true_and] at q2
        exact wpAny_truthy_bool q2
      · have J := inv_ext (h' := s'.heap) (g' := s'.gens) (d' := s'.drawn) (t' := s'.toks) I1 hP (fun b u nb e => mv.heap b u (nw b u e) (keep5 b u (kp b u nb e))) ⟨qs, mv.heap P _ (nw P _ e1) (keep5 P _ hq), tri2⟩ (AllBare.movedS (I1.bare.push bare) mv)
        rw [GxR.sh_eta s1 s' mv.os] at J
        exact J
  refine ⟨lim.push o, ?_⟩
  cases hf : codeAmong gpos ps.toList with
  | none =>
    refine wpAny_genexprCodeX hcode (cd.code e2 tri) (cd.tab e2) hf fun c' h' tk hx hge hlt hco' _ htab' _ => ?_
    obtain ⟨_, _, _, _, _, _, _, _, _, _, _, _, _, _, _, _, _, _, _, tr2, _⟩ := hco'
    exact fin _ h' tk _ hx (Nat.le_trans hge (Nat.le_of_lt hlt)) htab'.2 tr2
  | some cv =>
    refine wpAny_genexprCode_hit hcode (cd.code e2 tri) hf ?_
    exact fin cv (s1.heap.push o) s1.toks ps (Heap.ExtBut.refl _ _) (Nat.le_refl _) e2 tri
end DL
namespace DL
open PySem PySem.Spec PyProof.Rows L2
variable {X : Cx} {P : Addr}
/-- each sign of a is among those of cs -/
def oneIn (cs : Str) (c : Nat) : Bool := !(Builtin.Str.occurrences cs ⟨#[c]⟩ 0 cs.length 1).isEmpty
end DL
namespace EV
open PySem PySem.Spec PyProof.Rows L2 DL
variable [DL.TabC]
def tAllInT (cs : Str) (te : TE) : TE := fun σ H Q => te σ H fun v H1 => ∃ a : Str, v = .str a ∧ TabsE H1 ∧ Q (.bl (a.cps.toList.all (oneIn cs))) H1
theorem ed_allIn {g : Gm} {te : TE} {ρ ρ1 : Rho} {a cs : Str} (h : EvD g te ρ (.str a) ρ1) : EvD g (tAllInT cs te) ρ (.bool (a.cps.toList.all (oneIn cs))) ρ1 := fun c F H σ k s Q q => h c F H σ k s _ fun v F1 H1 s1 e1 x => by
  cases x
  exact ⟨a, rfl, s1.tabs, q _ F1 H1 s1 e1 (.bl _)⟩
def tInC (neg : Bool) (xs : List Str) (te : TE) : TE := fun σ H Q => te σ H fun v H1 => ∃ s : Str, v = .str s ∧ Q (.bl (if neg then !decide (s ∈ xs) else decide (s ∈ xs))) H1
theorem ed_inC {g : Gm} {te : TE} {ρ ρ1 : Rho} {a : Str} {xs : List Str} {neg : Bool} (h : EvD g te ρ (.str a) ρ1) : EvD g (tInC neg xs te) ρ (.bool (if neg then !decide (a ∈ xs) else decide (a ∈ xs))) ρ1 := fun c F H σ k s Q q => h c F H σ k s _ fun v F1 H1 s1 e1 x => by
  cases x
  exact ⟨a, rfl, q _ F1 H1 s1 e1 (.bl _)⟩
def rIsBl : Bool → R2
  | false => fun x y H Q => ∃ a b, x = .bl a ∧ y = .bl b ∧ Q (.bl (decide (a = b))) H
  | true => fun x y H Q => ∃ a b, x = .bl a ∧ y = .bl b ∧ Q (.bl (!decide (a = b))) H
theorem r2_isBl {K : PySem.W.Frag} {n a b : Bool} : R2D K (rIsBl n) (.bool a) (.bool b) (.bool (if n then !decide (a = b) else decide (a = b))) := fun F H x y Q f p r q => by
  have e1 : x = .bl a := by
    rcases p with p | ⟨_, _, _, _, z, _⟩
    · cases p; rfl
    · cases z
  have e2 : y = .bl b := by
    rcases r with p | ⟨_, _, _, _, z, _⟩
    · cases p; rfl
    · cases z
  cases n with
  | true => exact ⟨a, b, e1, e2, q _ F H (.at (.bl _))⟩
  | false => exact ⟨a, b, e1, e2, q _ F H (.at (.bl _))⟩
end EV
namespace DL
open PySem PySem.Spec PyProof.Rows L2
/-- at most the script is held, as data, and the tables -/
def onlyT (a : Addr) (u : Option HO) (Ps : List Addr) : Hp := fun b => if b = a then u else if b ∈ Ps then some (.ext (tabP b)) else none
theorem onlyT_at {a : Addr} {u : Option HO} {Ps : List Addr} : onlyT a u Ps a = u := if_pos rfl
theorem onlyT_tab {a b : Addr} {u : Option HO} {Ps : List Addr} (h : b ≠ a) (m : b ∈ Ps) : onlyT a u Ps b = some (.ext (tabP b)) := (if_neg h).trans (if_pos m)
theorem onlyT_off {a b : Addr} {u : Option HO} {Ps : List Addr} (h : b ≠ a) (m : b ∉ Ps) : onlyT a u Ps b = none := (if_neg h).trans (if_neg m)
section
variable {P : Program} {w : World} {K : PySem.W.Frag} {mg mb : Str → Option Value} {C : CXT} {k : Nat} {fa a : Addr} {fd : FuncData} {x : Str} {sp : Sp} {z : Shared} {vs : List Value} {ns : List Int} {cs : List (Addr × Addr)}
theorem lawGT (KX : K.In z.heap) (hm : z.heap.Ns mainGlobals mg) (hb : z.heap.Ns builtinsNs mb) (hbb : ∀ y : Str, y ≠ "__name__" → mb y = bootBuiltins y) (hlim : z.heap.NoLimit) (hg : z.gens = #[])
    (hT : ∀ p ∈ cs, z.heap.get? p.2 = some { cls := .none, data := .fields #[] }) (nT : ∀ p ∈ cs, K.lookup p.2 = none) (hc : ∀ p ∈ cs, PySem.W.codeHdIn K p.1 p.2 = true)
    (hbm : ∃ (bm : Addr) (ob : Obj), mg "__builtins__" = some (.ref bm) ∧ bm ≠ builtinsNs ∧ z.heap.get? bm = some ob ∧ ob.cls = .type "module" ∧ ob.dict = some builtinsNs ∧ ob.data = .plain)
    (ha : z.heap.get? a = some { cls := .type "list", data := .seq vs.toArray }) (hi : IntsAre vs ns) (hl : ns.length ≤ sizeLine) (hr : Room k callerA)
    (F : ∀ base : Heap, K.In base → base.Ns mainGlobals mg → (∀ p ∈ cs, GxR.TabB base mg p.1 p.2) → FnG P w K mg base C k fa fd [x] sp) (bd : ∀ (s : Shared) (u : Value), BindsTo s fd ⟨[u], []⟩ [(x, u)])
    (hs : ∀ H : Hp, (∀ p ∈ cs, H p.2 = some (.ext (tabP p.2))) → SqL K H a (ns.map V.int) → sp [.ref a] H (fun v H' => v = .bl true ∧ ∀ p ∈ cs, H' p.2 = some (.ext (tabP p.2))) fun _ _ _ => False) (hC : ∀ H e s', C [] H z (fun _ _ _ => False) e s' → False) :
    codeAny (model P w) callerA (.call (.ref fa) ⟨[.ref a], []⟩) (fun r s' => r = .ok (.ret (.bool true)) ∧ OldK z.heap s'.heap ∧ s'.os = z.os ∧ AllBare s'.gens) z := by
  have rv := vals_ints hi
  have tb : ∀ {b : Addr}, b ∈ cs.map (·.2) → z.heap.get? b = some { cls := .none, data := .fields #[] } := fun {b} m => by
    obtain ⟨p, mp, rfl⟩ := List.mem_map.mp m
    exact hT p mp
  have na : ∀ {b : Addr}, b ∈ cs.map (·.2) → b ≠ a := fun {b} m e => by
    have q := tb m
    rw [e, ha] at q
    exact nomatch (show Data.seq vs.toArray _ = Data.fields #[] from congrArg Obj.data (Option.some.inj q))
  have main : ∀ u : Option HO, (u = none ∨ ∃ o xs, u = some (.frz o (.lst xs))) → SqL K (onlyT a u (cs.map (·.2))) a (ns.map V.int) → HOk P w (onlyT a u (cs.map (·.2))) z.heap → (u ≠ none → K.lookup a = none) →
      codeAny (model P w) callerA (.call (.ref fa) ⟨[.ref a], []⟩) (fun r s' => r = .ok (.ret (.bool true)) ∧ OldK z.heap s'.heap ∧ s'.os = z.os ∧ AllBare s'.gens) z := by
    intro u hu hS ok hK
    generalize hH : onlyT a u (cs.map (·.2)) = H at *
    have off : ∀ {b : Addr}, (b = a → u = none) → b ∉ cs.map (·.2) → H b = none := fun {b} h1 h2 => by
      rw [← hH]
      by_cases e : b = a
      · rw [e, onlyT_at]; exact h1 e
      · exact onlyT_off e h2
    have tabs : ∀ p ∈ cs, H p.2 = some (.ext (tabP p.2)) := fun p mp => by
      have m : p.2 ∈ cs.map (·.2) := List.mem_map.mpr ⟨p, mp, rfl⟩
      rw [← hH]
      exact onlyT_tab (na m) m
    have sd : ∀ {b : Addr} {o : Obj}, z.heap.get? b = some o → (b = a → u = none) → b ∉ cs.map (·.2) → (hidT z.heap H).get? b = some o := fun q h1 h2 => hidT_get q (off h1 h2)
    have dict : ∀ {b : Addr} {o : Obj}, z.heap.get? b = some o → (∀ (l : List Value) n, o.data ≠ .seq l.toArray n) → o.data ≠ .fields #[] → (hidT z.heap H).get? b = some o := fun {b o} q d1 d2 => sd q (fun e => by
        subst e
        rw [ha] at q
        cases q
        exact absurd rfl (d1 vs _)) fun m => by
        have := (tb m).symm.trans q
        cases this
        exact d2 rfl
    have nsp : ∀ {b : Addr} {m : Str → Option Value}, z.heap.Ns b m → (hidT z.heap H).Ns b m := fun {b m} ⟨o, es, ep, q, d, r⟩ => ⟨o, es, ep, dict q (fun _ _ e => by rw [d] at e; cases e) (fun e => by rw [d] at e; cases e), d, r⟩
    have kin : K.In (hidT z.heap H) := fun b o q => sd (KX b o q) (fun e => by
      cases hu' : u with
      | none => rfl
      | some y =>
        have := hK (by rw [hu']; simp)
        rw [e, this] at q
        cases q) fun m => by
      obtain ⟨p, mp, rfl⟩ := List.mem_map.mp m
      rw [nT p mp] at q
      cases q
    obtain ⟨mc, l1, l2⟩ := id hlim
    obtain ⟨bm, ob, b1, b2, b3, b4, b5, b6⟩ := hbm
    have md : Mod K mg (hidT z.heap H) := ⟨kin, nsp hm, ⟨mb, nsp hb, hbb⟩, ⟨mc, nsp l1, l2⟩⟩
    have TB : ∀ p ∈ cs, GxR.TabB (hidT z.heap H) mg p.1 p.2 := fun p mp => by
      have m : p.2 ∈ cs.map (·.2) := List.mem_map.mpr ⟨p, mp, rfl⟩
      refine ⟨PySem.W.codeHd_of_K kin (hc p mp), ⟨bm, ob, b1, b2, fun e => ?_, fun e => ?_, dict b3 (fun _ _ e => by rw [b6] at e; cases e) (fun e => by rw [b6] at e; cases e), b4, b5, b6⟩, fun e => ?_⟩
      · obtain ⟨o, es, ep, q, d, _⟩ := hm
        rw [e] at b3
        cases q.symm.trans b3
        rw [b6] at d
        cases d
      · rw [e, tb m] at b3
        cases b3
        cases b6
      · obtain ⟨o, es, ep, q, d, _⟩ := hm
        rw [e, tb m] at q
        cases q
        cases d
    have e0 : Env0 P w K mg (hidT z.heap H) callerA [] z H := ⟨rfl, md, fun b o q => of_hidT q, Nat.le_of_eq (hidT_size _ _), trivial, fun b q => (nomatch q), ok, .of_eq hg⟩
    refine codeAny_mono ((F _ kin (nsp hm) TB).go callerA rfl hr [] z H ⟨[.ref a], []⟩ [.ref a] [.ref a] _ _ e0 (bd z (.ref a)) (.cons rfl .nil) (hs _ tabs hS)) ?_
    rintro (er | fl) s' h
    · exact (hC _ er s' h).elim
    · cases fl with
      | next => exact h.elim
      | brk => exact h.elim
      | cont => exact h.elim
      | ret y =>
        obtain ⟨v, H', os, bare, un, ok', r', q, qt⟩ := h
        subst q
        cases (r' : y = Value.bool true)
        have same : ∀ b o, b ∉ cs.map (·.2) → z.heap.get? b = some o → s'.heap.get? b = some o := fun b o nb e => by
          by_cases nn : H b = none
          · exact un.keep b o e nn (fun z => nomatch z) (by simp)
          · by_cases ea : b = a
            · subst ea
              rcases hu with hu | ⟨o2, xs, hu⟩
              · exact absurd (off (fun _ => hu) nb) nn
              · have e2 : H b = some (.frz o2 (.lst xs)) := by rw [← hH, onlyT_at]; exact hu
                have g1 := (ok b _ e2).1
                rw [e] at g1
                cases g1
                exact (ok' b _ (un.frzs b _ _ e2)).1
            · exact absurd (off (fun e => absurd e ea) nb) nn
        have grown : ∀ p ∈ cs, ∃ more : Array Value, s'.heap.get? p.2 = some { cls := .none, data := .fields more } := fun p mp => by
          obtain ⟨⟨ps, e, _⟩, _⟩ := (show ObjOk P w H' s'.heap p.2 (.ext (tabP p.2)) from ok' p.2 _ (qt p mp))
          exact ⟨ps, e⟩
        refine ⟨rfl, ⟨fun b o e => ?_, fun b o e => ?_⟩, os, bare⟩
        · by_cases m : b ∈ cs.map (·.2)
          · obtain ⟨p, mp, rfl⟩ := List.mem_map.mp m
            obtain ⟨more, e2⟩ := grown p mp
            rw [hT p mp] at e
            cases e
            exact .inr (.inl ⟨((PySem.W.codeHd_of_K KX (hc p mp)).tab (hT p mp)).isCodeTable, rfl, #[], more, rfl, by simpa using e2⟩)
          · exact .inl (same b o m e)
        · by_cases m : b ∈ cs.map (·.2)
          · obtain ⟨p, mp, rfl⟩ := List.mem_map.mp m
            obtain ⟨more, e2⟩ := grown p mp
            exact ⟨_, e2⟩
          · exact ⟨o, same b o m e⟩
  have tOk : ∀ {u : Option HO} {b : Addr} {o : HO}, b ≠ a → onlyT a u (cs.map (·.2)) b = some o → ObjOk P w (onlyT a u (cs.map (·.2))) z.heap b o := fun {u b o} ne e => by
    by_cases m : b ∈ cs.map (·.2)
    · rw [onlyT_tab ne m] at e
      cases e
      exact ⟨⟨#[], tb m, trivial⟩, ⟨_, tb m⟩, fun h1 h2 t q => tabP_keeps t q⟩
    · rw [onlyT_off ne m] at e
      cases e
  cases hk : K.lookup a with
  | some o =>
    have e := KX a o hk
    rw [ha] at e
    cases e
    exact main none (.inl rfl) (.inr ⟨_, vs.toArray, _, hk, rfl, rfl, rfl, by rw [List.size_toArray, hi.length]; exact hl, by simpa using rv⟩) (fun b u q => by
      by_cases e : b = a
      · rw [e, onlyT_at] at q; cases q
      · exact tOk e q) fun q => absurd rfl q
  | none =>
    exact main (some (.frz { cls := .type "list", data := .seq vs.toArray } (.lst (ns.map V.int)))) (.inr ⟨_, _, rfl⟩) (.inl (.inr ⟨{ cls := .type "list", data := .seq vs.toArray }, onlyT_at⟩)) (fun b u q => by
      by_cases e : b = a
      · subst e
        rw [onlyT_at] at q
        cases q
        exact ⟨ha, by rw [List.length_map]; exact hl, vs, _, rv, ha⟩
      · exact tOk e q) fun _ => hk
end
/-- F tells the law's def, and which tables there are -/
theorem walkGT {l : PySem.W.OpenLaw} {n k : Nat} {q : Program} {loose : List Str} {XP : (Str → Option Value) → Heap → Prop} {YP : World → Heap → Prop} {d : DefRec} {K : Params → PySem.W.Frag} {C : World → CXT} {x : Str}
    (hn : l.most = some n) (hn2 : n ≤ sizeLine) (hdf : d.params.defaults = []) (hr : Room k callerA) (hY : ∀ (w : World) (h : Heap), YP w h → (K w.params).In h)
    (F : ∀ (w : World) (mg : Str → Option Value) (fa : Addr) (hp : Heap), (K w.params).In hp → hp.Ns mainGlobals mg → (∀ (y : Str) (c P : Addr) (dr : DefRec), (recsOf q).find? (fun e => e.name == y) = some dr → PySem.W.tabIn (K w.params) y = some (c, P) → hp.get? P = some { cls := .none, data := .fields #[] }) → mg d.name = some (.ref fa) →
      ∃ (fd : FuncData) (cs : List (Addr × Addr)) (sp : Sp), (∀ p ∈ cs, hp.get? p.2 = some { cls := .none, data := .fields #[] }) ∧ (∀ p ∈ cs, (K w.params).lookup p.2 = none) ∧ (∀ p ∈ cs, PySem.W.codeHdIn (K w.params) p.1 p.2 = true) ∧ (∀ (s : Shared) (u : Value), BindsTo s fd ⟨[u], []⟩ [(x, u)]) ∧
        (∀ (H : Hp) (a : Addr) (ns : List Int), ns.length ≤ n → (∀ p ∈ cs, H p.2 = some (.ext (tabP p.2))) → SqL (K w.params) H a (ns.map V.int) → sp [.ref a] H (fun v H' => v = .bl true ∧ ∀ p ∈ cs, H' p.2 = some (.ext (tabP p.2))) fun _ _ _ => False) ∧
        ∀ base : Heap, (K w.params).In base → base.Ns mainGlobals mg → (∀ p ∈ cs, GxR.TabB base mg p.1 p.2) → FnG l.prog w (K w.params) mg base (C w) k fa fd [x] sp)
    (hC : ∀ (w : World) (H : Hp) (s : Shared) (e : Value) (s' : Shared), C w [] H s (fun _ _ _ => False) e s' → False) : PySem.W.WalkO q loose XP YP l.row.toRowW d [] (fun f vs => PySem.call f vs) := by
  apply Att.attach_call hn hdf
  intro w s₀ z mg mb fa o pm cd doc a vs ns G Y ho hd hcd hmg hobj hints hlen hg
  obtain ⟨fd, cs, sp, h1, h2, h3, h4, h5, h6⟩ := F w mg fa _ (hY w _ Y) G.T.g (fun y c P dr e1 e2 => (PySem.W.tab_of G.T (hY w _ Y) e1 e2).2) hmg
  exact lawGT (hY w _ Y) G.T.g G.T.b G.T.builtins G.T.nolimit hg h1 h2 h3 G.T.bmain hobj hints (Nat.le_trans hlen hn2) hr h6 h4 (fun H hH hS => h5 H a ns hlen hH hS) fun H e s' => hC w H z e s'
end DL
set_option autoImplicit false
namespace DL
open PySem PySem.Spec PyProof.Rows L2
/-- the object at f is o, for good -/
def ObO (f : Addr) (o : Obj) : HO := .ext fun h => h.get? f = some o
end DL
namespace DL
open PySem PySem.Spec PyProof.Rows L2
end DL
namespace DL
open PySem PySem.Spec PyProof.Rows L2
def codeS (d : Addr) (q : Str) : Heap → Prop := fun h => ∃ (oc : Obj) (vs : Array Value) (t : Tok), h.get? d = some oc ∧ oc.data = .fields vs ∧ vs[1]? = some (.str q t)
def objS (f : Addr) (o : Obj) : Heap → Prop := fun h => h.get? f = some o
variable [TabC]
def tCallT (i : Nat) (S : Addr → Option Sp) (t : TA) : TE := fun σ H Q => TabsE H ∧ ∃ (f : Addr) (sp : Sp), σ[i]? = some (some (.ref f)) ∧ S f = some sp ∧ t σ H fun vs H2 => TabsE H2 ∧ sp vs H2 Q (fun _ _ _ => False)
end DL
namespace DL
open PySem PySem.Spec PyProof.Rows L2
variable [TabC]
/-- the lambda's value: a new object, that stands for good; its code object too -/
def tLamE (P : Addr) (q : Str) (ob : Addr → Value → Value → Obj) : TE := fun _ H Q => TabI H ∧ ∀ (f d : Addr) (pm ctv : Value) (H1 : Hp), H f = none → (∀ b o, b ≠ P → H b = some o → H1 b = some o) → TabI H1 → H1 f = some (ObO f (ob d pm ctv)) → H1 d = some (LamX.CodeO d q) → Q (.ref f) H1
section
variable {g : Gm} {t : TA} {ρ ρ1 : Rho} {As : List Arg} {ds : List D} {i : Nat} {a : Addr} {tbl : List (Addr × (List D → Option RetV))} {f : List D → Option RetV}
def tCallTF (K : PySem.W.Frag) (i : Nat) (tbl : List (Addr × (List D → Option RetV))) (t : TA) : TE := tCallT i (fun a => (tblF tbl a).map fun f => spD (fun ds r => f ds = some r) K) t
theorem ed_callT {d : D} (h0 : ρ[i]? = some (.dat (fnD a))) (hf : tblF tbl a = some f) (ha : EvA g t ρ As ρ1) (hR : f ds = some (.dat d)) (hd : datas As = some ds := by rfl) : EvD g (tCallTF g.K i tbl t) ρ d ρ1 := fun c F H σ k s Q q => by
  obtain ⟨v, f1, f2⟩ := s.dat h0
  rw [dx_fn f2] at f1
  refine ⟨s.tabs, a, spD (fun ds r => f ds = some r) g.K, f1, by show (tblF tbl a).map _ = _; rw [hf]; rfl, ?_⟩
  refine ha c F H σ k s _ fun vs F1 H1 s1 e1 h1 => ⟨s1.tabs, ?_⟩
  have kk : c.K = g.K := k.1
  obtain ⟨fp, sf⟩ := id s1
  rw [← kk]
  exact ⟨F1, ds, .dat d, s1.ft, h1.datas hd, hR, fun v F' H' t r => q v F' H' ⟨fp, sf.after t⟩ (e1.trans t.f0) r⟩
theorem ew_callT {w : Ow} (h0 : ρ[i]? = some (.dat (fnD a))) (hf : tblF tbl a = some f) (ha : EvA g t ρ As ρ1) (hR : f ds = some (.new w)) (hd : datas As = some ds := by rfl) : EvW g (tCallTF g.K i tbl t) ρ w ρ1 := fun c F H σ k s Q q => by
  obtain ⟨v, f1, f2⟩ := s.dat h0
  rw [dx_fn f2] at f1
  refine ⟨s.tabs, a, spD (fun ds r => f ds = some r) g.K, f1, by show (tblF tbl a).map _ = _; rw [hf]; rfl, ?_⟩
  refine ha c F H σ k s _ fun vs F1 H1 s1 e1 h1 => ⟨s1.tabs, ?_⟩
  have kk : c.K = g.K := k.1
  obtain ⟨fp, sf⟩ := id s1
  rw [← kk]
  refine ⟨F1, ds, .new w, s1.ft, h1.datas hd, hR, fun v F' H' t r => ?_⟩
  have t' := sf.after t
  obtain ⟨a, f, rfl, hr, hf⟩ := r
  refine q a F' H' ⟨f, fp, t', hr, fun b m => ⟨(hf b m).1, (hf b m).2.1, ?_⟩, fun j w' b z m m' => ?_⟩ (e1.trans t.f0)
  · cases z : c.B b with
    | none => rfl
    | some o => exact absurd (hf b m).2.2 (sf.dom b (by simp [z]))
  · exact (sf.ownF j w' b z m').2.1 (hf b m).2.2
end
end DL
namespace DL
open PySem PySem.Spec PyProof.Rows L2
/-- a context with more in it -/
@[reducible] def TabC.more (I : TabC) (es : List (Addr × (Heap → Prop))) : TabC := ⟨es ++ I.exts, I.lams, I.wld⟩
theorem SimF.fewer {I : TabC} {es : List (Addr × (Heap → Prop))} {c : Cc} {F H : Hp} {σ : L2.St} {ρ : Rho} {fp : Nat → List Addr} (s : @SimF (I.more es) c F H σ ρ fp) : @SimF I c F H σ ρ fp := by
  cases s with
  | mk f0 fh keep dom av par dat own ownF sep len wp pb tb tw tl ti fl =>
    exact @SimF.mk I c F H σ ρ fp f0 fh keep dom av par dat own ownF sep len wp pb (fun p m => tb p (List.mem_append_right _ m)) (fun p m => tw p (List.mem_append_right _ m)) (fun p m => tl p (List.mem_append_right _ m)) ti fl
theorem Sim.fewer {I : TabC} {es : List (Addr × (Heap → Prop))} {c : Cc} {F H : Hp} {σ : L2.St} {ρ : Rho} (s : @Sim (I.more es) c F H σ ρ) : @Sim I c F H σ ρ := by
  obtain ⟨fp, s⟩ := s
  exact ⟨fp, SimF.fewer s⟩
variable [TabC]
theorem TabI.there {H : Hp} {P : Addr} (t : TabI H) (h : lamW P) : ∃ ps, H P = some (.tbl ps) := by
  obtain ⟨q, m, rfl⟩ := h
  obtain ⟨ps, h1, _⟩ := t q m
  exact ⟨ps, h1⟩
theorem SimF.lam {c : Cc} {F H H1 : Hp} {σ : L2.St} {ρ : Rho} {fp : Nat → List Addr} {P : Addr} (s : SimF c F H σ ρ fp) (hP : lamW P) (old : ∀ b o, b ≠ P → H b = some o → H1 b = some o) (T1 : TabI H1) : SimF c F H1 σ ρ fp := by
  have there : ∀ b, H b ≠ none → H1 b ≠ none := fun b q => by
    by_cases z : b = P
    · obtain ⟨ps, e⟩ := T1.there hP
      rw [z, e]; simp
    · cases y : H b with
      | none => exact absurd y q
      | some o => rw [old b o z y]; simp
  have same : ∀ (i : Nat) (w : Ow) b, ρ[i]? = some (.own w) → b ∈ fp i → H1 b = H b := fun i w b q m => by
    have nb : b ≠ P := fun z => s.noLam q m (by rw [z]; exact hP)
    cases y : H b with
    | none => exact absurd y (s.ownF i w b q m).2.1
    | some o => exact old b o nb y
  refine ⟨s.f0, fun b o q => old b o (fun z => ?_) (s.fh b o q), fun b o q w l => old b o (fun z => l (by rw [z]; exact hP)) (s.keep b o q w l), fun b q => there b (s.dom b q), s.av, s.par, s.dat, fun i w q => ?_, fun i w b q m => ?_, s.sep, s.len, s.wp, s.pb, s.tb, s.tw, s.tl, T1, s.fl⟩
  · rw [z, s.fl P hP] at q
    cases q
  · obtain ⟨a, e1, e2⟩ := s.own i w q
    exact ⟨a, e1, e2.up (Same.refl _) fun b m => same i w b q m⟩
  · obtain ⟨e1, e2, e3⟩ := s.ownF i w b q m
    exact ⟨e1, by rw [same i w b q m]; exact e2, e3⟩
end DL
namespace DL
open PySem PySem.Spec PyProof.Rows L2
/-- the promise of a def that gets lambdas: it is kept in every context -/
def spL (R : TabC → List D → RetV → Prop) (K : PySem.W.Frag) : Sp := fun vs H Q E => ∃ I : TabC, @spD I (R I) K vs H Q E
def tSnoc (t : TA) (te : TE) : TA := fun σ H k => t σ H fun vs H1 => te σ H1 fun v H2 => k (vs ++ [v]) H2
section
variable [I : TabC] {g : Gm} {t : TA} {ρ ρ1 : Rho} {As : List Arg} {ds : List D}
abbrev lamEx (f d : Addr) (q : Str) (o : Obj) : List (Addr × (Heap → Prop)) := [(f, objS f o), (d, codeS d q)]
theorem ed_callLam {R : TabC → List D → RetV → Prop} {E : XK} {P : Addr} {q : Str} {ob : Addr → Value → Value → Obj} {e : D} (ha : EvA g t ρ As ρ1) (hP : (P, q) ∈ TabC.lams) (hR : ∀ f d pm ctv, R (I.more (lamEx f d q (ob d pm ctv))) (ds ++ [fnD f]) (.dat e)) (hd : datas As = some ds := by rfl) :
    EvD g (tCall (spL R g.K) [] E (tSnoc t (tLamE P q ob))) ρ e ρ1 := fun c F H σ k s Q z => ha c F H σ k s _ fun vs F1 H1 s1 e1 h1 => by
  have kk : c.K = g.K := k.1
  obtain ⟨fp, sf⟩ := id s1
  refine ⟨sf.ti, fun f d pm ctv H2 nf old T2 hf hc => ?_⟩
  have sL := sf.lam ⟨(P, q), hP, rfl⟩ old T2
  show spL R g.K ((vs ++ [V.ref f]) ++ []) H2 Q E
  rw [List.append_nil, ← kk]
  refine ⟨I.more (lamEx f d q (ob d pm ctv)), F1, ds ++ [fnD f], .dat e, ⟨sL.fh, fun p m => ?_, sL.ti, sL.fl⟩, dpAllApp (h1.datas hd) (.cons (.fn f) .nil), hR f d pm ctv, fun v F' H' t r => z v F' H' ⟨fp, sL.after (Sim.fewer t)⟩ (e1.trans ?_) r⟩
  · rcases List.mem_append.mp m with m | m
    · simp only [List.mem_cons, List.not_mem_nil, or_false] at m
      rcases m with rfl | rfl
      · exact hf
      · exact hc
    · exact sL.tabs p m
  · exact Sim.f0 (Sim.fewer t)
end
end DL
namespace DL
open PySem PySem.Spec PyProof.Rows L2
abbrev NK := NestedKey
mutual
def nkD : D → Option NK
  | .none => some .none
  | .int i => some (.num i)
  | .str x => some (.text x)
  | .tuple ds => (nkAll ds).map .tup
  | .bool _ => none
  | .list _ => none
  | .dict _ => none
def nkAll : List D → Option (List NK)
  | [] => some []
  | d :: ds => (nkD d).bind fun k => (nkAll ds).map fun ks => k :: ks
end
mutual
theorem nkD_eq : ∀ {d : D} {k : NK}, nkD d = some k → d = k.data
  | .none, k, h => by simp only [nkD] at h; cases h; rfl
  | .int i, k, h => by simp only [nkD] at h; cases h; rfl
  | .str x, k, h => by simp only [nkD] at h; cases h; rfl
  | .tuple ds, k, h => by
    simp only [nkD] at h
    obtain ⟨ks, e, rfl⟩ := Option.map_eq_some_iff.mp h
    rw [NestedKey.data, nkAll_eq e]
  | .bool _, k, h => by simp [nkD] at h
  | .list _, k, h => by simp [nkD] at h
  | .dict _, k, h => by simp [nkD] at h
theorem nkAll_eq : ∀ {ds : List D} {ks : List NK}, nkAll ds = some ks → ds = NestedKey.datas ks
  | [], ks, h => by simp only [nkAll] at h; cases h; rfl
  | d :: ds, ks, h => by
    simp only [nkAll] at h
    obtain ⟨k, e, h⟩ := Option.bind_eq_some_iff.mp h
    obtain ⟨ks', e2, rfl⟩ := Option.map_eq_some_iff.mp h
    rw [NestedKey.datas, ← nkD_eq e, ← nkAll_eq e2]
end
/-- a dict's key: a tuple, not too deep -/
def tkD (d : D) : Option NK := match d with
  | .tuple _ => (nkD d).bind fun k => if k.depth ≤ 8 then some k else none
  | _ => none
theorem tkD_eq {d : D} {k : NK} (h : tkD d = some k) : d = k.data ∧ k.depth ≤ 8 ∧ ∃ ks, k = .tup ks := by
  unfold tkD at h
  split at h
  · rename_i ds
    obtain ⟨k', e, h⟩ := Option.bind_eq_some_iff.mp h
    split at h
    · cases h
      refine ⟨nkD_eq e, by assumption, ?_⟩
      simp only [nkD] at e
      obtain ⟨ks, _, rfl⟩ := Option.map_eq_some_iff.mp e
      exact ⟨ks, rfl⟩
    · cases h
  · cases h
mutual
theorem nested_of {X : Cx} {pins : List (Addr × Obj)} {σ : L2.St} {H : Hp} {s : Shared} (I : L2.Inv X pins σ H s) : ∀ (k : NK) (v : V) (u : Value), Dx X.K H v k.data → RelV v u → NestedIs s.heap k u
  | .none, v, u, h, r => by
    rw [NestedKey.data] at h
    cases h
    cases (show u = Value.none from r)
    exact .none
  | .num i, v, u, h, r => by
    rw [NestedKey.data] at h
    cases h
    obtain ⟨t, rfl⟩ := (show ∃ t, u = Value.int i t from r)
    exact .int i t
  | .text x, v, u, h, r => by
    rw [NestedKey.data] at h
    cases h
    obtain ⟨t, rfl⟩ := (show ∃ t, u = Value.str x t from r)
    exact .text x t
  | .tup ks, v, u, h, r => by
    rw [NestedKey.data] at h
    cases h with
    | tup t a =>
      rename_i b xs
      cases (show u = Value.ref b from r)
      obtain ⟨its, vs, ⟨o, e, cl, n, dt⟩, _⟩ := I.tuple t.old
      exact .tup e cl dt (nested_all I ks xs its a vs)
theorem nested_all {X : Cx} {pins : List (Addr × Obj)} {σ : L2.St} {H : Hp} {s : Shared} (I : L2.Inv X pins σ H s) : ∀ (ks : List NK) (xs : List V) (us : List Value), DxAll X.K H xs (NestedKey.datas ks) → Vals xs us → NestedAll s.heap ks us
  | [], xs, us, h, r => by
    rw [NestedKey.datas] at h
    cases h
    cases r
    exact .nil
  | k :: ks, xs, us, h, r => by
    rw [NestedKey.datas] at h
    cases h with
    | cons h t =>
      cases r with
      | cons r1 r2 => exact .cons (nested_of I k _ _ h r1) (nested_all I ks _ _ t r2)
end
abbrev KsV := List (NK × Addr × V)
def valX (ks : KsV) (k : NK) : Option V := (ks.find? fun z => decide (z.1 = k)).map (·.2.2)
def putX (ks : KsV) (k : NK) (b : Addr) (v : V) : KsV := if (ks.any fun z => decide (z.1 = k)) = true then ks.map (fun z => if z.1 = k then (z.1, z.2.1, v) else z) else ks ++ [(k, b, v)]
def valT (kvs : List (NK × D)) (k : NK) : Option D := (kvs.find? fun z => decide (z.1 = k)).map (·.2)
def putT (kvs : List (NK × D)) (k : NK) (d : D) : List (NK × D) := if (kvs.any fun z => decide (z.1 = k)) = true then kvs.map (fun z => if z.1 = k then (z.1, d) else z) else kvs ++ [(k, d)]
variable {K : PySem.W.Frag}
theorem kdt_len {F : Hp} {ks : KsV} {kvs : List (NK × D)} (h : KDT K F ks kvs) : ks.length = kvs.length := Paired.length h
theorem kdt_up {F F' : Hp} (e : Same F F') {ks : KsV} {kvs : List (NK × D)} (h : KDT K F ks kvs) : KDT K F' ks kvs := pairedMap h fun _ _ _ r => ⟨r.1, r.2.1, dpUp e r.2.2.1, dpUp e r.2.2.2⟩
theorem kdt_any {F : Hp} (k : NK) : ∀ {ks : KsV} {kvs : List (NK × D)}, KDT K F ks kvs → (ks.any fun z => decide (z.1 = k)) = (kvs.any fun z => decide (z.1 = k))
  | _, _, .nil => rfl
  | _, _, .cons r t => by rw [List.any_cons, List.any_cons, kdt_any k t, r.1]
theorem kdt_val {F : Hp} (k : NK) : ∀ {ks : KsV} {kvs : List (NK × D)}, KDT K F ks kvs → (valX ks k = none ∧ valT kvs k = none) ∨ ∃ v d, valX ks k = some v ∧ valT kvs k = some d ∧ Dx K F v d
  | _, _, .nil => .inl ⟨rfl, rfl⟩
  | _, _, .cons (a := p) (b := q) r t => by
    have ih := kdt_val k t
    unfold valX valT at ih ⊢
    rw [List.find?_cons, List.find?_cons, r.1]
    by_cases e : q.1 = k
    · rw [decide_eq_true e]
      exact .inr ⟨p.2.2, q.2, rfl, rfl, r.2.2.2⟩
    · rw [decide_eq_false e]
      exact ih
theorem kdt_map {F : Hp} (k : NK) {v : V} {d : D} (hv : Dx K F v d) : ∀ {ks : KsV} {kvs : List (NK × D)}, KDT K F ks kvs → KDT K F (ks.map fun z => if z.1 = k then (z.1, z.2.1, v) else z) (kvs.map fun z => if z.1 = k then (z.1, d) else z)
  | _, _, .nil => .nil
  | _, _, .cons (a := p) (b := q) r t => by
    refine .cons ?_ (kdt_map k hv t)
    dsimp only
    rw [r.1]
    by_cases e : q.1 = k
    · rw [if_pos e, if_pos e]
      refine ⟨rfl, by rw [← r.1]; exact r.2.1, by rw [← r.1]; exact r.2.2.1, hv⟩
    · rw [if_neg e, if_neg e]
      exact r
theorem kdt_app {F : Hp} : ∀ {ks ls : KsV} {kvs lvs : List (NK × D)}, KDT K F ks kvs → KDT K F ls lvs → KDT K F (ks ++ ls) (kvs ++ lvs)
  | _, _, _, _, .nil, h => h
  | _, _, _, _, .cons r t, h => .cons r (kdt_app t h)
theorem kdt_put {F : Hp} {k : NK} {b : Addr} {v : V} {d : D} (hk : k.depth ≤ 8) (hb : Dx K F (.ref b) k.data) (hv : Dx K F v d) {ks : KsV} {kvs : List (NK × D)} (h : KDT K F ks kvs) : KDT K F (putX ks k b v) (putT kvs k d) := by
  unfold putX putT
  rw [kdt_any k h]
  split
  · exact kdt_map k hv h
  · exact kdt_app h (.cons ⟨rfl, hk, hb, hv⟩ .nil)
theorem putX_len (ks : KsV) (k : NK) (b : Addr) (v : V) : (putX ks k b v).length ≤ ks.length + 1 := by
  unfold putX
  split
  · rw [List.length_map]; omega
  · simp
/-- the dict at a, the keys' tuples, a key's tuple at b -/
structure KeyX (K : PySem.W.Frag) (w : World) (H : Hp) (a b : Addr) (k : NK) (ks : KsV) : Prop where
  at_ : H a = some (dTO w a ks)
  all : ∀ z ∈ ks, z.1.depth ≤ 8 ∧ Dx K H (.ref z.2.1) z.1.data
  dep : k.depth ≤ 8
  key : Dx K H (.ref b) k.data
theorem KDT.all {F H : Hp} (e : Same F H) : ∀ {ks : KsV} {kvs : List (NK × D)}, KDT K F ks kvs → ∀ z ∈ ks, z.1.depth ≤ 8 ∧ Dx K H (.ref z.2.1) z.1.data
  | _, _, .nil, _, m => nomatch m
  | _, _, .cons r t, z, m => by
    rcases List.mem_cons.mp m with y | y
    · rw [y]; exact ⟨r.2.1, dpUp e r.2.2.1⟩
    · exact KDT.all e t z y
abbrev RelZ : NK × Addr × V → NK × Addr × Value → Prop := fun p z => p.1 = z.1 ∧ p.2.1 = z.2.1 ∧ RelV p.2.2 z.2.2
section
variable {X : Cx} {pins : List (Addr × Obj)} {σ : L2.St} {H : Hp} {s : Shared} {a b : Addr} {k : NK} {ks : KsV}
theorem relz_has : ∀ {ks : KsV} {zs : List (NK × Addr × Value)}, Paired RelZ ks zs → ∀ z ∈ zs, ∃ p ∈ ks, RelZ p z
  | _, _, .nil, _, m => nomatch m
  | _, _, .cons r t, z, m => by
    rcases List.mem_cons.mp m with y | y
    · exact ⟨_, List.mem_cons_self, by rw [y]; exact r⟩
    · obtain ⟨p, mp, q⟩ := relz_has t z y
      exact ⟨p, List.mem_cons_of_mem _ mp, q⟩
theorem xobj (I : L2.Inv X pins σ H s) (h : H a = some (dTO X.w a ks)) (hk : ∀ z ∈ ks, z.1.depth ≤ 8 ∧ Dx X.K H (.ref z.2.1) z.1.data) : ∃ zs, Paired RelZ ks zs ∧ (a == sysModules) = false ∧ ks.length ≤ sizeLine ∧ s.heap.DictOfH (nestedKind X.prog X.w) a zs := by
  obtain ⟨⟨h1, h2, zs, o, es, ep, h3, h4, h5, h6, h7, h8⟩, _⟩ := (show ObjOk X.prog X.w H s.heap a (.ext (dTok X.w a ks)) from I.hok a _ h)
  refine ⟨zs, h3, h1, h2, o, es, ep, h4, h5, h6, h7, fun z m => ?_, h8⟩
  obtain ⟨p, mp, r1, r2, _⟩ := relz_has h3 z m
  obtain ⟨q1, q2⟩ := hk p mp
  rw [r1] at q1
  rw [r1, r2] at q2
  exact ⟨nested_of I z.1 (.ref z.2.1) (.ref z.2.1) q2 rfl, q1⟩
theorem relz_val (k : NK) : ∀ {ks : KsV} {zs : List (NK × Addr × Value)}, Paired RelZ ks zs → (valX ks k = none ∧ atKey zs k = none) ∨ ∃ v p, valX ks k = some v ∧ atKey zs k = some p ∧ RelV v p.2
  | _, _, .nil => .inl ⟨rfl, rfl⟩
  | _, _, .cons (a := p) (b := q) r t => by
    have ih := relz_val k t
    unfold valX atKey at ih ⊢
    rw [List.find?_cons, List.find?_cons, r.1]
    by_cases e : q.1 = k
    · rw [decide_eq_true e]
      exact .inr ⟨p.2.2, q.2, rfl, rfl, r.2.2⟩
    · rw [decide_eq_false e]
      exact ih
theorem relz_map (k : NK) {v : V} {u : Value} (r : RelV v u) : ∀ {ks : KsV} {zs : List (NK × Addr × Value)}, Paired RelZ ks zs → Paired RelZ (ks.map fun z => if z.1 = k then (z.1, z.2.1, v) else z) (zs.map (putAt k u))
  | _, _, .nil => .nil
  | _, _, .cons (a := p) (b := q) h t => by
    refine .cons ?_ (relz_map k r t)
    unfold putAt
    dsimp only
    rw [h.1]
    by_cases e : q.1 = k
    · rw [if_pos e, if_pos e]
      exact ⟨rfl, h.2.1, r⟩
    · rw [if_neg e, if_neg e]
      exact h
theorem relz_app : ∀ {ks ls : KsV} {zs ys : List (NK × Addr × Value)}, Paired RelZ ks zs → Paired RelZ ls ys → Paired RelZ (ks ++ ls) (zs ++ ys)
  | _, _, _, _, .nil, h => h
  | _, _, _, _, .cons r t, h => .cons r (relz_app t h)
theorem relz_any (k : NK) : ∀ {ks : KsV} {zs : List (NK × Addr × Value)}, Paired RelZ ks zs → (ks.any fun z => decide (z.1 = k)) = (atKey zs k).isSome
  | _, _, .nil => rfl
  | _, _, .cons (a := p) (b := q) r t => by
    have ih := relz_any k t
    unfold atKey at ih ⊢
    rw [List.any_cons, List.find?_cons, r.1]
    by_cases e : q.1 = k
    · rw [decide_eq_true e]; rfl
    · rw [decide_eq_false e, ih]; rfl
theorem relz_put {k : NK} {b : Addr} {v : V} {u : Value} (r : RelV v u) {ks : KsV} {zs : List (NK × Addr × Value)} (h : Paired RelZ ks zs) : Paired RelZ (putX ks k b v) (storedH zs k b u) := by
  unfold putX storedH
  rw [relz_any k h]
  split
  · exact relz_map k r h
  · exact relz_app h (.cons ⟨rfl, rfl, r⟩ .nil)
theorem nroom {A : Around} (h : A.units + 64 < cLine) {P : Program} {w : World} : (nestedKind P w).room A.in1 := by
  show A.units + 1 + 8 < cLine
  omega
theorem nroom0 {A : Around} (h : A.units + 64 < cLine) {P : Program} {w : World} : (nestedKind P w).room A := by
  show A.units + 8 < cLine
  omega
theorem xobj_new {P : Program} {w : World} {H : Hp} (h : Heap) (hb : sysModules < h.objs.size) : ObjOk P w H (h.push { cls := .type "dict", data := .dict #[] }) h.objs.size (dTO w h.objs.size []) :=
  ⟨⟨beq_eq_false_iff_ne.mpr (Ne.symm (Nat.ne_of_lt hb)), Nat.zero_le _, [], _, #[], 0, .nil, Heap.get?_push_size _ rfl, ⟨rfl, rfl, rfl⟩, rfl, rfl, List.nodup_nil⟩, ⟨_, Heap.get?_push_size _ rfl⟩,
    fun h1 h2 ⟨q1, q2, zs, o, es, ep, q3, q4, q5⟩ t => ⟨q1, q2, zs, o, es, ep, q3, t _ q4, q5⟩⟩
theorem xobj_of {P : Program} {w : World} {H : Hp} {h : Heap} {zs : List (NK × Addr × Value)} (h1 : (a == sysModules) = false) (h2 : ks.length ≤ sizeLine) (r : Paired RelZ ks zs) (d : h.DictOfH (nestedKind P w) a zs) : ObjOk P w H h a (dTO w a ks) := by
  obtain ⟨o, es, ep, q4, q5, q6, q7, _, q8⟩ := d
  exact ⟨⟨h1, h2, zs, o, es, ep, r, q4, q5, q6, q7, q8⟩, ⟨_, q4⟩, fun h1 h2 ⟨q1, q2, zs, o, es, ep, q3, q4, q5⟩ t => ⟨q1, q2, zs, o, es, ep, q3, t _ q4, q5⟩⟩
variable {A : Around} {E : Value → Shared → Prop}
/-- what a stored entry leaves -/
theorem x_stored {v : V} {r : Value} {h' : Heap} {zs : List (NK × Addr × Value)} {t' : Nat} (I : L2.Inv X pins σ H s) (g : KeyX X.K X.w H a b k ks) (rel : Paired RelZ ks zs) (hd : (a == sysModules) = false) (hz : ks.length < sizeLine) (rv : RelV v r) (hm : h'.DictOfH (nestedKind X.prog X.w) a (storedH zs k b r)) (hs : Heap.SameBut a s.heap h') :
    L2.Inv X pins σ (upd H a (dTO X.w a (putX ks k b v))) { s with heap := h', toks := t' } := by
  have he : ∃ q, h'.get? a = some q := let ⟨q, _, _, hq, _⟩ := hm; ⟨q, hq⟩
  exact d_write I (by rw [g.at_]; exact True.intro) hs he (xobj_of hd (Nat.le_trans (putX_len ks k b v) hz) (relz_put rv rel) hm)
end
end DL
namespace DL
open PySem PySem.Spec PyProof.Rows L2
variable [TabC]
def tXNew : TE := fun _ H Q => ∀ p, H p = none → Q (.ref p) (upd H p (dTO TabC.wld p []))
def tXIn (K : PySem.W.Frag) (n : Bool) (ty td : TE) : TE := fun σ H Q => ty σ H fun y H1 => td σ H1 fun x H2 => ∃ a b k ks, x = .ref a ∧ y = .ref b ∧ KeyX K TabC.wld H2 a b k ks ∧ Q (.bl (if n then !(valX ks k).isSome else (valX ks k).isSome)) H2
def tXGet (K : PySem.W.Frag) (td ty : TE) : TE := fun σ H Q => td σ H fun x H1 => ty σ H1 fun y H2 => ∃ a b k ks v, x = .ref a ∧ y = .ref b ∧ KeyX K TabC.wld H2 a b k ks ∧ valX ks k = some v ∧ Q v H2
def sXPut (K : PySem.W.Frag) (td ty tv : TE) : TS := fun D σ H => tv σ H fun v H1 => td σ H1 fun x H2 => ty σ H2 fun y H3 => ∃ a b k ks, x = .ref a ∧ y = .ref b ∧ KeyX K TabC.wld H3 a b k ks ∧ ks.length < sizeLine ∧ D.nx σ (upd H3 a (dTO TabC.wld a (putX ks k b v)))
theorem dx_ref {K : PySem.W.Frag} {F : Hp} {v : V} {k : NK} (h : Dx K F v k.data) (hk : ∃ ks, k = .tup ks) : ∃ b, v = .ref b := by
  obtain ⟨ks, rfl⟩ := hk
  rw [NestedKey.data] at h
  cases h with
  | tup t a => exact ⟨_, rfl⟩
theorem Sim.dtAt {c : Cc} {F H : Hp} {σ : L2.St} {ρ : Rho} (s : Sim c F H σ ρ) {i : Nat} {kvs : List (NK × D)} (he : ρ[i]? = some (.own (.dT kvs))) : ∃ a ks, σ[i]? = some (some (.ref a)) ∧ H a = some (dTO TabC.wld a ks) ∧ KDT c.K F ks kvs ∧ ∀ o w', OwRep c.K F (upd H a o) a [a] w' → Sim c F (upd H a o) σ (ρ.set i (.own w')) := by
  obtain ⟨fp, sf⟩ := s
  obtain ⟨a, e1, e2, ks, e3, e4⟩ := sf.own i _ he
  refine ⟨a, ks, e1, e3, e4, fun o w' hr => Sim.alter sf he e1 (fun b m _ => ?_) (fun b m => ?_) hr (fun b m => .inl (by rw [e2]; exact m))⟩
  · rw [upd_ne (fun z => m (by rw [e2, z]; simp))]
  · by_cases z : b = a
    · rw [z, upd_same]; simp
    · rw [upd_ne z]; exact (sf.ownF i _ b he m).2.1
section
variable {g : Gm} {te ti : TE} {ρ ρ1 ρ2 : Rho} {d : D} {i : Nat} {k : NK} {P : Out → Prop} {kvs kvs0 : List (NK × D)}
/-- x = {} -/
theorem sv_newX (h : P (.nx (ρ.set i (.own (.dT []))))) (hi : i < ρ.length) (hp : i ∉ g.ps) : Sv g (tAsg tXNew (gName i)) ρ P := fun c F H σ E kk s p q hq => by
  obtain ⟨fp, sf⟩ := id s
  have hB : c.B q = none := by
    cases z : c.B q with
    | none => rfl
    | some u => exact absurd hq (sf.dom q (by simp [z]))
  have no : ∀ (j : Nat) (w : Ow), ρ[j]? = some (.own w) → q ∉ fp j := fun j w z m => (sf.ownF j w q z m).2.1 hq
  exact p.nx _ F (upd H q (dTO TabC.wld q [])) _ h ((sf.other (freeF sf.fh hq) hB no (fun u e => by rw [hq] at e; cases e)).setOwn (f := [q]) ⟨rfl, [], upd_same, .nil⟩ (fun b m => by
    have z : b = q := by simpa using m
    subst z
    exact ⟨freeF sf.fh hq, by rw [upd_same]; simp, hB⟩) (fun j w' b z m => by
    have y : b = q := by simpa using m
    subst y
    exact no j w' z) hi (notP kk hp)) (Same.refl _)
theorem ed_xin {n : Bool} (hk : EvD g ti ρ k.data ρ1) (hd : k.depth ≤ 8) (ht : ∃ ks, k = .tup ks) (h1 : ρ1[i]? = some (.own (.dT kvs))) : EvD g (tXIn g.K n ti (tVar i)) ρ (.bool (if n then !(valT kvs k).isSome else (valT kvs k).isSome)) ρ1 := fun c F H σ kk s Q q => hk c F H σ kk s _ fun v F1 H1 s1 e1 x => by
  obtain ⟨b, rfl⟩ := dx_ref x ht
  obtain ⟨a, ks, f1, f2, f3, _⟩ := s1.dtAt h1
  have kK : c.K = g.K := kk.1
  refine ⟨_, f1, a, b, k, ks, rfl, rfl, ⟨f2, ?_, hd, ?_⟩, ?_⟩
  · rw [← kK]; exact KDT.all s1.fh f3
  · rw [← kK]; exact dpUp s1.fh x
  · rcases kdt_val k f3 with ⟨z1, z2⟩ | ⟨v', d', z1, z2, _⟩ <;> rw [z1] <;> rw [z2] at q <;> cases n <;> exact q _ F1 H1 s1 e1 (.bl _)
theorem ed_xget (h0 : ρ[i]? = some (.own (.dT kvs0))) (hk : EvD g ti ρ k.data ρ1) (hd : k.depth ≤ 8) (ht : ∃ ks, k = .tup ks) (h1 : ρ1[i]? = some (.own (.dT kvs))) (hv : valT kvs k = some d) : EvD g (tXGet g.K (tVar i) ti) ρ d ρ1 := fun c F H σ kk s Q q => by
  obtain ⟨a, xs, f1, _, _, _⟩ := s.dtAt h0
  refine ⟨_, f1, hk c F H σ kk s _ fun v F1 H1 s1 e1 x => ?_⟩
  obtain ⟨b, rfl⟩ := dx_ref x ht
  obtain ⟨a', ks, g1, g2, g3, _⟩ := s1.dtAt h1
  have kK : c.K = g.K := kk.1
  have := some_inj2 f1 g1
  subst this
  rcases kdt_val k g3 with ⟨z1, z2⟩ | ⟨v', d', z1, z2, z3⟩
  · rw [z2] at hv; cases hv
  · rw [hv] at z2
    cases z2
    refine ⟨a, b, k, ks, v', rfl, rfl, ⟨g2, ?_, hd, ?_⟩, z1, q v' F1 H1 s1 e1 z3⟩
    · rw [← kK]; exact KDT.all s1.fh g3
    · rw [← kK]; exact dpUp s1.fh x
theorem sv_xput (he : EvD g te ρ d ρ1) (h0 : ρ1[i]? = some (.own (.dT kvs0))) (hk : EvD g ti ρ1 k.data ρ2) (hd : k.depth ≤ 8) (ht : ∃ ks, k = .tup ks) (h1 : ρ2[i]? = some (.own (.dT kvs))) (hz : kvs.length < sizeLine) (h : P (.nx (ρ2.set i (.own (.dT (putT kvs k d)))))) :
    Sv g (sXPut g.K (tVar i) ti te) ρ P := fun c F H σ E kk s p => he c F H σ kk.ok s _ fun v F1 H1 s1 e1 x => by
  obtain ⟨a, xs, f1, _, _, _⟩ := s1.dtAt h0
  refine ⟨_, f1, hk c F1 H1 σ kk.ok s1 _ fun u F2 H2 s2 e2 y => ?_⟩
  obtain ⟨b, rfl⟩ := dx_ref y ht
  obtain ⟨a', ks, g1, g2, g3, g4⟩ := s2.dtAt h1
  have kK : c.K = g.K := kk.ok.1
  have := some_inj2 f1 g1
  subst this
  refine ⟨a, b, k, ks, rfl, rfl, ⟨g2, ?_, hd, ?_⟩, by rw [kdt_len g3]; exact hz, ?_⟩
  · rw [← kK]; exact KDT.all s2.fh g3
  · rw [← kK]; exact dpUp s2.fh y
  · exact p.nx _ _ _ _ h (g4 _ _ ⟨rfl, _, upd_same, kdt_put hd y (dpUp e2 x) g3⟩) (e1.trans e2)
end
end DL
namespace DL
open PySem PySem.Spec PyProof.Rows L2
theorem x_dictSet {X : Cx} {pins : List (Addr × Obj)} {σ : L2.St} {H : Hp} {s : Shared} {a b : Addr} {k : NK} {ks : KsV} {v : V} {r : Value} {E : Value → Shared → Prop} {Q : Unit → Shared → Prop} (hu : X.A.units + 64 < cLine) (I : L2.Inv X pins σ H s) (g : KeyX X.K X.w H a b k ks) (hz : ks.length < sizeLine) (rv : RelV v r)
    (h : ∀ s', L2.Inv X pins σ (upd H a (dTO X.w a (putX ks k b v))) s' → Q () s') : wpAny (model X.prog X.w) X.A (dictSet a (.ref b) r) Q E s := by
  obtain ⟨zs, rel, hd, hl, dd⟩ := xobj I g.at_ g.all
  have key : (nestedKind X.prog X.w).is s.heap k b := ⟨nested_of I k _ _ g.key rfl, g.dep⟩
  exact wpAny_dictSet_heap (hsz := by rw [← Paired.length rel]; exact hl) (nroom0 hu) key dd fun h' hm' hs => h _ (x_stored I g rel hd hz rv hm' hs)
section
variable [TabC]
/-- {key: value for target in iter if ..}: D the new dict, W by the turn and a measure -/
def tXDc (K : PySem.W.Frag) (wi : TI) (g : TG) (tt : TT) (tk tv : TE) (vs : List Nat) : TE := fun σ H Q => wi σ H fun J H1 => ∀ D, H1 D = none → ∃ W : Nat → Nat → Hp → Prop, (∃ m, W 0 m (upd H1 D (dTO TabC.wld D []))) ∧ ∀ i m H, W i m H →
  (J.stop i H ∧ Q (.ref D) H) ∨ (J.go i H ∧ ∃ Nx : Hp → Prop, (∀ H', Nx H' → ∃ m', m' < m ∧ W (i + 1) m' H') ∧ ∀ x H', J.yld i H x H' → g x (wipe σ vs) H' fun σ2 H2 => wipe σ2 vs = wipe σ vs ∧ tt σ2 H2 fun b H3 =>
    if b = true then tk σ2 H3 fun y H4 => tv σ2 H4 fun z H5 => ∃ b k ks, y = .ref b ∧ KeyX K TabC.wld H5 D b k ks ∧ ks.length < sizeLine ∧ Nx (upd H5 D (dTO TabC.wld D (putX ks k b z))) else Nx H3)
variable {X : Cx} {kx vx tg iter : Expr} {ifs : List Expr} {scope : Scope} {own : List (Str × Nat)} {pos : Pos} {wi : TI} {g : TG} {tt : TT} {tk tv : TE}
theorem pe_xdc (hw : X.w = TabC.wld) (hu : X.A.units + 64 < cLine) (hc : X.calm = true) (hN : X.N.Nodup) (hi : PI X tg iter wi) (ok : BlkOk X.N X.env.scope scope own)
    (hg : ∀ s H C cl fp, PG (X.blk s H scope (compEnvC scope cl C X.env) fp) tg g) (ht : ∀ s H C cl fp, PTs (X.blk s H scope (compEnvC scope cl C X.env) fp) ifs tt)
    (hk : ∀ s H C cl fp, PE (X.blk s H scope (compEnvC scope cl C X.env) fp) kx tk) (he : ∀ s H C cl fp, PE (X.blk s H scope (compEnvC scope cl C X.env) fp) vx tv) (hs : ∀ x, foldedSetIterable iter X.env x = pure x := by intro _; rfl) :
    PE X (.DictComp kx vx [⟨tg, iter, ifs, 0⟩] scope pos) (tXDc X.K wi g tt tk tv (own.map (·.2))) := by
  refine ⟨fun pins s σ H Q J0 h0 => ?_⟩
  rw [arm_eval_DictComp]
  have hfr : ∀ y ∈ scope.names, y.2 = .free → ∃ c, X.env.cells.lookup y.1 = some c := fun y m e => (ok.free y m e).elim (fun z => J0.ok.has _ (.inl z)) fun z => J0.ok.has _ (.inr z)
  refine wpAny_comprehension_free (use := none) rfl hs (closure_ok hfr) ok.kind (fun y m e => by rw [ok.uniq y m, e]) (thn (hi.run pins s σ H _ J0 h0) fun _ sA k => thn k fun _ sB ⟨it, fp, tn, J, HB, eI, JB, T, stB, fB, qB⟩ => ?_)
  subst eI
  refine wpAny_newObj_type (newEnv_comp ?_)
  obtain ⟨D, hD⟩ : ∃ D, D = sB.heap.objs.size := ⟨_, rfl⟩
  rw [← hD]
  obtain ⟨W, ⟨m0, w0⟩, turn⟩ := qB D (by rw [hD]; exact JB.hok.fresh (Nat.le_refl _))
  rw [← hw] at w0
  -- the new dict stands
  generalize e3 : ({ sB with heap := sB.heap.push { cls := .type "dict", data := .dict #[] } } : Shared) = s3
  have hp3 : s3.heap = sB.heap.push { cls := .type "dict", data := .dict #[] } := by rw [← e3]
  have J3 : L2.Inv X pins σ (upd HB D (dTO X.w D [])) s3 := by
    rw [← e3, hD]
    exact JB.laid (t' := sB.toks) (fun _ _ e => Heap.get?_push_of_some _ e) (Nat.le_refl _) (xobj_new (w := X.w) sB.heap JB.big)
  have old : ∀ b ∈ fp, b < sB.heap.objs.size := fun b m => let ⟨_, e, _⟩ := T.obj _ _ stB b m; Heap.lt_size e
  have f3 : ∀ b ∈ fp, FpOk X pins (upd HB D (dTO X.w D [])) b ∧ b < s3.heap.objs.size := fun b m =>
    ⟨⟨by rw [upd_ne (by rw [hD]; exact Nat.ne_of_lt (old b m))]; exact (fB b m).1, (fB b m).2⟩, by rw [hp3, Heap.size_push]; exact Nat.lt_succ_of_lt (old b m)⟩
  have st3 : tn 0 s3.heap := T.keep _ _ _ stB fun b _ o e => by rw [hp3]; exact Heap.get?_push_of_some _ e
  have n3 : ∀ b ∈ fp, (upd HB D (dTO X.w D [])) b = none := fun b m => (f3 b m).1.1
  have J4 := block_start J3 ok hN f3
  generalize eH : upd HB D (dTO X.w D []) = H3 at w0 J3 J4 f3 n3
  obtain ⟨C, eC⟩ : ∃ C, C = s3.heap.objs.size := ⟨_, rfl⟩
  obtain ⟨cl, ecl⟩ : ∃ cl, cl = cellsFrom (s3.heap.objs.size + 1) scope.names (cloFrom X.env.cells scope.names []) := ⟨_, rfl⟩
  obtain ⟨ce, ece⟩ : ∃ ce, ce = compEnvC scope cl C X.env := ⟨_, rfl⟩
  rw [← ecl, ← eC, ← ece] at J4
  obtain ⟨s4, e4⟩ : ∃ s4 : Shared, s4 = { s3 with heap := pushCells (s3.heap.push { cls := .type "dict", data := .dict #[] }) scope.names } := ⟨_, rfl⟩
  rw [← e4] at J4
  have pg := hg s3 H3 C cl fp; have pt := ht s3 H3 C cl fp; have pk := hk s3 H3 C cl fp; have pv := he s3 H3 C cl fp
  rw [← ece] at pg pt pk pv
  have cloc : ce.locals = C := by rw [ece]; rfl
  have st4 : tn 0 s4.heap := T.keep _ _ _ st3 fun b _ o e => by rw [e4]; exact pushCells_keeps _ _ _ _ (Heap.get?_push_of_some _ e)
  have stat : ∀ {σ' : L2.St} {H' : Hp} {s' : Shared}, L2.Inv (X.blk s3 H3 scope ce fp) [] σ' H' s' → (∀ b ∈ fp, H' b = none) → ∀ b ∈ fp, FpOk (X.blk s3 H3 scope ce fp) [] H' b := fun {_ _ _} J' n b m =>
    ⟨n b m, (J'.ok.exf b m).1, J'.ok.exfs b m, .inl m, fun y c e => (J'.ok.exf b m).2 y c e, fun p mp => by cases (show p ∈ ([] : List (Addr × Obj)) from mp)⟩
  have fin : ∀ (R : Result → Shared → Prop), (∀ s' m H', L2.Inv X pins σ H' s' → Q (.ref D) H' → s'.heap.Ns C m → FpOk X pins H' C → R (.ok .next) s') → codeAny (model X.prog X.w) X.A (.compLoop (.DictComp kx vx [⟨tg, iter, ifs, 0⟩] scope pos) 0 (.ref it) (.ref D) ce) R s4 := by
    intro R hR
    refine compLoop_anyD (fun n s' => ∃ i H', L2.Inv (X.blk s3 H3 scope ce fp) [] (wipe σ (own.map (·.2))) H' s' ∧ tn i s'.heap ∧ (∀ b ∈ fp, H' b = none) ∧ W i n H') (fun n s5 ⟨i, H5, J5, st5, n5, w5⟩ => ?_) m0 ⟨0, H3, J4, st4, n3, w0⟩
    rcases turn i n H5 w5 with ⟨stop, qq⟩ | ⟨go, Nx, hNx, step⟩
    · refine thnF (T.done (X.blk s3 H3 scope ce fp) rfl rfl rfl hc i [] s5 _ H5 (fun _ _ => False) J5 (stat J5 n5) st5 stop) fun r s6 ⟨er, J6⟩ => ?_
      subst er
      have J7 : L2.Inv X pins σ H5 s6 := J3.call' (ch := fp) J6.os J6.base J6.hok J6.bare fun b m => let z := (f3 b m).1.2; ⟨z.2.2.1, z.1, z.2.2.2.1, z.2.2.2.2⟩
      have nC : H5 C = none := by rw [← cloc]; exact J6.free
      obtain ⟨mN, hn, _⟩ := J6.loc
      refine hR s6 mN H5 J7 qq (by rw [← cloc]; exact hn) ?_
      rw [eC] at nC ⊢
      exact J3.fpOk (Nat.le_refl _) nC
    · refine thnF (T.item (X.blk s3 H3 scope ce fp) rfl rfl rfl hc i [] s5 _ H5 (fun _ _ => False) J5 (stat J5 n5) st5 go) fun r s6 ⟨u, er, h6⟩ => ?_
      subst er
      refine thnF h6 fun _ s7 ⟨x, H7, J7, r7, y7, st7, n7⟩ => ?_
      refine thnF (pg.run _ s7 _ H7 x u _ (J7.pinned (stat J7 n7) (T.obj _ _ st7)) r7 (step x H7 y7)) fun _ s8 ⟨σ8, H8, J8, hw8, q8⟩ => thnF (pt.run _ s8 σ8 H8 _ J8 q8) fun bb s9 ⟨H9, J9, q9⟩ => ?_
      have close : ∀ {s' : Shared} {H' : Hp}, L2.Inv (X.blk s3 H3 scope ce fp) ([] ++ pinsAt fp s7.heap) σ8 H' s' → Nx H' → ∃ m, m < n ∧ ∃ i H', L2.Inv (X.blk s3 H3 scope ce fp) [] (wipe σ (own.map (·.2))) H' s' ∧ tn i s'.heap ∧ (∀ b ∈ fp, H' b = none) ∧ W i m H' := fun {s' H'} J' nx => by
        obtain ⟨m', lt', w'⟩ := hNx H' nx
        have pin : ∀ b ∈ fp, ∀ o, s7.heap.get? b = some o → s'.heap.get? b = some o ∧ H' b = none := fun b m o e => let z := J'.pin (b, o) (List.mem_append_right _ (List.mem_append_right _ (mem_pinsAt m e))); ⟨z.1, z.2.1⟩
        refine ⟨m', lt', i + 1, H', (J'.unpinned (pins := [])).weak (by rw [← hw8, wipe_length]) (fun j v e => by rw [← hw8] at e; exact (wipe_some e).1), T.keep _ _ _ st7 fun b m o e => (pin b m o e).1, fun b m => ?_, w'⟩
        obtain ⟨o, e, _⟩ := T.obj _ _ st7 b m
        exact (pin b m o e).2
      cases bb with
      | false => rw [if_neg (by decide)] at q9 ⊢; exact close J9 q9
      | true =>
        rw [if_pos rfl] at q9 ⊢
        refine thnF (pk.run _ s9 σ8 H9 _ J9 q9) fun z s10 ⟨yk, H10, J10, r10, q10⟩ => thnF (pv.run _ s10 σ8 H10 _ J10 q10) fun z2 s11 ⟨yv, H11, J11, r11, b, k, ks, eb, gk, hz, nx⟩ => ?_
        subst eb
        cases (show z = Value.ref b from r10)
        rw [← hw] at gk nx
        exact x_dictSet (X := X.blk s3 H3 scope ce fp) hu J11 gk hz r11 fun s12 J12 => close J12 nx
  have loop := fin (compPost (model X.prog X.w) X.A X.xe none (EP X pins σ Q) (.ref D) C) fun s' mN H' J' q hn f => ⟨mN, hn, fun h'' sb => ⟨.ref D, H', J'.turned (t' := s'.toks) (fun b o hb e => (sb.2 b hb).trans e) f.1 f.2.1 f.2.2.2.1 f.2.2.2.2.1 f.2.2.2.2.2, rfl, q⟩⟩
  have fini := codeAny_compStart_dict loop (T.self X.A 0 _ _ _ st4 loop)
  subst e4; subst ece; subst ecl; subst eC
  exact fini
end
end DL
namespace DL
open PySem PySem.Spec PyProof.Rows L2
variable [TabC] {g : Gm}
def dcT (ks : Nat → NK) (ds : Nat → D) (n : Nat) : List (NK × D) := (List.range n).foldl (fun kvs j => putT kvs (ks j) (ds j)) []
theorem dcT_s (ks : Nat → NK) (ds : Nat → D) (n : Nat) : dcT ks ds (n + 1) = putT (dcT ks ds n) (ks n) (ds n) := by
  unfold dcT
  rw [List.range_succ, List.foldl_append]
  rfl
theorem putT_len (kvs : List (NK × D)) (k : NK) (d : D) : (putT kvs k d).length ≤ kvs.length + 1 := by
  unfold putT
  split
  · rw [List.length_map]; omega
  · simp
theorem dcT_len (ks : Nat → NK) (ds : Nat → D) : ∀ n, (dcT ks ds n).length ≤ n
  | 0 => Nat.le_refl _
  | n + 1 => by
    rw [dcT_s]
    have := putT_len (dcT ks ds n) (ks n) (ds n)
    have := dcT_len ks ds n
    omega
theorem ew_xdc {wi : TI} {t : TG} {tt : TT} {tk te : TE} {vs : List Nat} {ρ ρ1 : Rho} {n : Nat} {xs : Nat → D} (hi : EvI g wi ρ n xs ρ1) (E : Nat → Rho) (ks : Nat → NK) (ds : Nat → D) (h0 : E 0 = ρ1) (hz : n < sizeLine) (hv : ∀ i, i ∈ vs → i ∉ g.ps)
    (hE : ∀ i, i ≤ n → ∀ j : Nat, j ∈ vs → ∀ e : Ent, (E i)[j]? = some e → e = .no)
    (hs : ∀ i, i < n → ∃ ρ2 ρ3 ρ4 ρ5, TgC g t vs (xs i) (E i) ρ2 ∧ EvT g tt ρ2 true ρ3 ∧ EvD g tk ρ3 (ks i).data ρ4 ∧ ((ks i).depth ≤ 8 ∧ ∃ l, ks i = .tup l) ∧ EvD g te ρ4 (ds i) ρ5 ∧ Back vs ρ5 (E (i + 1))) :
    EvW g (tXDc g.K wi t tt tk te vs) ρ (.dT (dcT ks ds n)) (E n) := fun c F H σ k s Q q => by
  refine hi c F H σ k s _ fun J F1 H1 s1 e1 w Dl hD => ?_
  subst h0
  have hBD : c.B Dl = none := by
    obtain ⟨fp, sf⟩ := id s1
    cases z : c.B Dl with
    | none => rfl
    | some u => exact absurd hD (sf.dom Dl (by simp [z]))
  have hP : ∀ i a, (i, a) ∈ c.P → i ∉ vs := fun i a m m' => hv i m' (by rw [← k.2]; exact List.mem_map.mpr ⟨(i, a), m, rfl⟩)
  have hP' : ∀ i, i ∉ g.ps → ∀ a, (i, a) ∉ c.P := fun i m a m' => m (by rw [← k.2]; exact List.mem_map.mpr ⟨(i, a), m', rfl⟩)
  have kk : c.K = g.K := k.1
  refine ⟨fun i m H' => m = n - i ∧ i ≤ n ∧ ∃ F' fp acc, Same F1 F' ∧ SimF c F' H' σ (E i) fp ∧ H' Dl = some (dTO TabC.wld Dl acc) ∧ F' Dl = none ∧ (∀ (j : Nat) (w : Ow), (E i)[j]? = some (.own w) → Dl ∉ fp j) ∧ KDT c.K F' acc (dcT ks ds i), ⟨n, by omega, by omega, ?_⟩, ?_⟩
  · obtain ⟨fp, sf⟩ := s1
    have fD := freeF sf.fh hD
    have no : ∀ (j : Nat) (w : Ow), (E 0)[j]? = some (.own w) → Dl ∉ fp j := fun j w q m => (sf.ownF j w Dl q m).2.1 hD
    exact ⟨F1, fp, [], Same.refl _, sf.other fD hBD no (fun u e => by rw [hD] at e; cases e), upd_same, fD, no, .nil⟩
  · rintro i m H2 ⟨rfl, hin, F2, fp2, acc, e2, s2, hD2, fD2, no2, ha2⟩
    obtain ⟨w1, w2, w3⟩ := w F2 H2 e2 s2.fh
    by_cases hlt : i < n
    · refine .inr ⟨w1 i hlt, fun H' => ∃ F' fp acc, Same F1 F' ∧ SimF c F' H' σ (E (i + 1)) fp ∧ H' Dl = some (dTO TabC.wld Dl acc) ∧ F' Dl = none ∧ (∀ (j : Nat) (w : Ow), (E (i + 1))[j]? = some (.own w) → Dl ∉ fp j) ∧ KDT c.K F' acc (dcT ks ds (i + 1)), fun H' z => ⟨n - (i + 1), by omega, rfl, by omega, z⟩, fun x H3 y => ?_⟩
      obtain ⟨F3, rs⟩ := w3 i x H3 hlt y
      let c2 := c.re F2 H2 (ownW (E i) fp2)
      have k2 : c2.ok g := k
      have sr : Sim c2 F2 H2 σ (E i) := ⟨fp2, s2.re⟩
      obtain ⟨s3, e3, x3⟩ := rs.sim (c := c2) sr
      have sw : Sim c2 F3 H3 (wipe σ vs) (E i) := by
        obtain ⟨fp3, s3⟩ := s3
        exact ⟨fp3, s3.slots vs (fun j m => wipe_at m) (fun j m e q => hE i (by omega) j m e q) (fun _ _ => rfl) hP (by rw [wipe_length]; exact s3.len)⟩
      obtain ⟨ρ2, ρ3, ρ4, ρ5, ht, htt, hk, ⟨hdep, htup⟩, hte, hback⟩ := hs i hlt
      refine ht c2 F3 H3 (wipe σ vs) x hP' kk sw x3 _ fun σ2 sg hlen hσ2 => ?_
      have hσ : ∀ j : Nat, j ∉ vs → σ2[j]? = σ[j]? := fun j m => (hσ2 j m).trans (wipe_at m)
      refine ⟨wipe_ext (by rw [hlen, wipe_length]) hσ, htt c2 F3 H3 σ2 k2 sg _ fun F4 H4 s4 e4 => ?_⟩
      rw [if_pos rfl]
      refine hk c2 F4 H4 σ2 k2 s4 _ fun vk F5 H5 s5 e5 x5 => hte c2 F5 H5 σ2 k2 s5 _ fun v F6 H6 s6 e6 x6 => ?_
      obtain ⟨b, rfl⟩ := dx_ref x5 htup
      have e26 : Same F2 F6 := ((e3.trans e4).trans e5).trans e6
      have f6 : Same F6 H6 := s6.fh
      obtain ⟨fp6, s6⟩ := s6
      have nW : ¬ ownW (E i) fp2 Dl := fun ⟨j, w, q, m⟩ => no2 j w q m
      have hl : σ.length = (E (i + 1)).length := by
        have h1 := s6.len
        have h2 := hback.1
        have h3 := hlen.trans (wipe_length σ vs)
        omega
      have t6 := (s2.un s6).slots vs (fun j m => (hσ j m).symm) hback.2.1 hback.2.2 hP hl
      have hD6 : H6 Dl = some (dTO TabC.wld Dl acc) := s6.keep Dl _ hD2 nW (s2.ti.noLam fun u e => by rw [hD2] at e; cases e; exact notDT)
      have fD6 : F6 Dl = none := s6.av Dl (by show H2 Dl ≠ none; rw [hD2]; simp) fD2
      have no6 : ∀ (j : Nat) (w : Ow), (E (i + 1))[j]? = some (.own w) → Dl ∉ fp6 j := fun j w q m => by
        have q6 : ρ5[j]? = some (.own w) := by
          by_cases mm : j ∈ vs
          · cases hback.2.1 j mm _ q
          · rw [hback.2.2 j mm] at q; exact q
        rcases (s6.ownF j w Dl q6 m).2.2 with z | z
        · rw [show c2.B Dl = H2 Dl from rfl, hD2] at z; cases z
        · exact nW z
      have ha6 := kdt_up e26 ha2
      have hlen2 : acc.length ≤ i := by rw [kdt_len ha2]; exact dcT_len ks ds i
      refine ⟨b, ks i, acc, rfl, ⟨hD6, ?_, hdep, ?_⟩, by omega, F6, fp6, _, e2.trans e26, t6.other fD6 hBD no6 (fun u e => by rw [hD6] at e; cases e; exact notDT), upd_same, fD6, no6, ?_⟩
      · rw [← kk]; exact KDT.all f6 ha6
      · rw [← kk]; exact dpUp f6 (dpUp e6 x5)
      · rw [dcT_s]
        exact kdt_put hdep (dpUp e6 x5) x6 ha6
    · have e : i = n := by omega
      subst e
      refine .inl ⟨w2, q Dl F2 H2 ⟨[Dl], fp2, s2, ⟨rfl, acc, hD2, ha2⟩, fun b m => ?_, fun j w' b z m m' => ?_⟩ (e1.trans e2)⟩
      · rw [List.mem_singleton.mp m]
        exact ⟨fD2, by rw [hD2]; simp, hBD⟩
      · rw [List.mem_singleton.mp m] at m'
        exact no2 j w' z m'
end DL
namespace DL
open PySem PySem.Spec PyProof.Rows L2
abbrev Tb := List (Addr × (List D → Option RetV))
open Classical in
noncomputable def anyA (f : Addr → Option RetV) : Option RetV := if h : ∃ r, ∀ a, f a = some r then some h.choose else none
theorem anyA_all {f : Addr → Option RetV} {r : RetV} (h : anyA f = some r) (a : Addr) : f a = some r := by
  unfold anyA at h
  split at h
  · rename_i e
    rw [← h]
    exact e.choose_spec a
  · cases h
abbrev spRL (HA : TabC → Tb → Prop) (F : Tb → List D → Option RetV) : TabC → List D → RetV → Prop := fun I ds r => ∃ tbl, HA I tbl ∧ F tbl ds = some r
section
variable [I : TabC] {g : Gm} {t : TA} {ρ ρ1 : Rho} {As : List Arg} {ds : List D}
theorem ew_callLam {R : TabC → List D → RetV → Prop} {E : XK} {P : Addr} {q : Str} {ob : Addr → Value → Value → Obj} {w : Ow} (ha : EvA g t ρ As ρ1) (hP : (P, q) ∈ TabC.lams) (hR : ∀ f d pm ctv, R (I.more (lamEx f d q (ob d pm ctv))) (ds ++ [fnD f]) (.new w)) (hd : datas As = some ds := by rfl) :
    EvW g (tCall (spL R g.K) [] E (tSnoc t (tLamE P q ob))) ρ w ρ1 := fun c F H σ k s Q z => ha c F H σ k s _ fun vs F1 H1 s1 e1 h1 => by
  have kk : c.K = g.K := k.1
  obtain ⟨fp, sf⟩ := id s1
  refine ⟨sf.ti, fun f d pm ctv H2 nf old T2 hf hc => ?_⟩
  have sL := sf.lam ⟨(P, q), hP, rfl⟩ old T2
  show spL R g.K ((vs ++ [V.ref f]) ++ []) H2 Q E
  rw [List.append_nil, ← kk]
  refine ⟨I.more (lamEx f d q (ob d pm ctv)), F1, ds ++ [fnD f], .new w, ⟨sL.fh, fun p m => ?_, sL.ti, sL.fl⟩, dpAllApp (h1.datas hd) (.cons (.fn f) .nil), hR f d pm ctv, fun v F' H' t r => ?_⟩
  · rcases List.mem_append.mp m with m | m
    · simp only [List.mem_cons, List.not_mem_nil, or_false] at m
      rcases m with rfl | rfl
      · exact hf
      · exact hc
    · exact sL.tabs p m
  · have t0 := Sim.fewer t
    have t' := sL.after t0
    obtain ⟨a, f2, rfl, hr, hf2⟩ := r
    have hr' : @OwRep I c.K F' H' a f2 w := by
      cases w <;> exact hr
    refine z a F' H' ⟨f2, fp, t', hr', fun b m => ⟨(hf2 b m).1, (hf2 b m).2.1, ?_⟩, fun j w' b y m m' => ?_⟩ (e1.trans (Sim.f0 t0))
    · cases y : c.B b with
      | none => rfl
      | some o => exact absurd (hf2 b m).2.2 (sL.dom b (by simp [y]))
    · exact (sL.ownF j w' b y m').2.1 (hf2 b m).2.2
def tCallLam (K : PySem.W.Frag) (F : Tb → List D → Option RetV) (lf : List D → Option RetV) (t : TA) : TE := fun σ H Q => ∀ (HA : TabC → Tb → Prop) (P : Addr) (q : Str) (ob : Addr → Value → Value → Obj),
  (P, q) ∈ TabC.lams → (∀ f d pm ctv, HA (I.more (lamEx f d q (ob d pm ctv))) [(f, lf)]) → tCall (spL (spRL HA F) K) [] E0 (tSnoc t (tLamE P q ob)) σ H Q
theorem ed_callLamE {F : Tb → List D → Option RetV} {lf : List D → Option RetV} {e : D} (ha : EvA g t ρ As ρ1) (hR : anyA (fun a => F [(a, lf)] (ds ++ [fnD a])) = some (.dat e)) (hd : datas As = some ds := by rfl) : EvD g (tCallLam g.K F lf t) ρ e ρ1 :=
  fun c F1 H σ k s Q z HA P q ob hP hHA => ed_callLam (R := spRL HA F) ha hP (fun f d pm ctv => ⟨[(f, lf)], hHA f d pm ctv, anyA_all hR f⟩) hd c F1 H σ k s Q z
theorem ew_callLamE {F : Tb → List D → Option RetV} {lf : List D → Option RetV} {w : Ow} (ha : EvA g t ρ As ρ1) (hR : anyA (fun a => F [(a, lf)] (ds ++ [fnD a])) = some (.new w)) (hd : datas As = some ds := by rfl) : EvW g (tCallLam g.K F lf t) ρ w ρ1 :=
  fun c F1 H σ k s Q z HA P q ob hP hHA => ew_callLam (R := spRL HA F) ha hP (fun f d pm ctv => ⟨[(f, lf)], hHA f d pm ctv, anyA_all hR f⟩) hd c F1 H σ k s Q z
end
end DL
set_option autoImplicit true
namespace DL
open PySem PySem.Spec PyProof.Rows L2 RZ
variable [TabC]
/-- two tuples walked at once, the pairs kept -/
def IzF (K : PySem.W.Frag) (a b : Addr) : It :=
  ⟨fun i H => ∃ (xs ys : List V) (x y : V), SqT K H a xs ∧ SqT K H b ys ∧ xs[i]? = some x ∧ ys[i]? = some y,
    fun i H v H' => ∃ T x y o, v = .ref T ∧ H T = none ∧ o.dict = none ∧ H' = upd H T (.frz o (.tup [x, y])) ∧ (∀ xs, SqT K H a xs → xs[i]? = some x) ∧ ∀ ys, SqT K H b ys → ys[i]? = some y,
    fun i H => ∃ xs ys : List V, SqT K H a xs ∧ SqT K H b ys ∧ (xs.length ≤ i ∨ ys.length ≤ i)⟩
def iZipF (K : PySem.W.Frag) (ta : TA) : TI := fun σ H R => ta σ H fun vs H1 => ∃ a b xs ys, vs = [.ref a, .ref b] ∧ SqT K H1 a xs ∧ SqT K H1 b ys ∧ R (IzF K a b) H1
section
variable {g : Gm} {ta : TA} {ρ ρ1 : Rho} {ds es : List D} {K : PySem.W.Frag}
theorem walk_zipF {F : Hp} {a b : Addr} {vs ws : List V} (h : SqT K F a vs) (h' : SqT K F b ws) (k : DxAll K F vs ds) (k' : DxAll K F ws es) : WalkD K F (IzF K a b) (min ds.length es.length) (fun i => .tuple [nthD ds i, nthD es i]) := fun F2 H2 e1 e2 => by
  have q : SqT K H2 a vs := stUp e2 (stUp e1 h)
  have q' : SqT K H2 b ws := stUp e2 (stUp e1 h')
  have hl := dpAllLen k
  have hl' := dpAllLen k'
  refine ⟨fun i hi => ⟨vs, ws, vs[i]'(by omega), ws[i]'(by omega), q, q', by simp [show i < vs.length by omega], by simp [show i < ws.length by omega]⟩, ⟨vs, ws, q, q', by omega⟩, fun i x H' hi y => ?_⟩
  obtain ⟨T, v, v', o, rfl, hT, ho, rfl, y1, y2⟩ := y
  obtain ⟨v1, h1, h2⟩ := dpAllGet k (nthD_at (show i < ds.length by omega))
  obtain ⟨v2, h3, h4⟩ := dpAllGet k' (nthD_at (show i < es.length by omega))
  have y1 := y1 vs q
  have y2 := y2 ws q'
  rw [h1] at y1
  rw [h3] at y2
  cases y1
  cases y2
  exact ⟨_, .new hT ho (.cons (dpUp e1 h2) (.cons (dpUp e1 h4) .nil))⟩
theorem ei_zipF {A B : Arg} (h : EvA g ta ρ [A, B] ρ1) (hA : A = .d (.tuple ds)) (hB : B = .d (.tuple es)) : EvI g (iZipF g.K ta) ρ (min ds.length es.length) (fun i => .tuple [nthD ds i, nthD es i]) ρ1 := fun c F H σ k s R q => h c F H σ k s _ fun vs F1 H1 s1 e1 x => by
  subst hA hB
  have kk : c.K = g.K := k.1
  cases x with
  | cons a t =>
    cases t with
    | cons b t =>
      cases t
      cases a with
      | d a =>
        cases b with
        | d b =>
          cases a with
          | tup hs ha =>
            cases b with
            | tup hs' ha' =>
              rw [kk] at hs ha hs' ha'
              exact ⟨_, _, _, _, rfl, stUp s1.fh hs.old, stUp s1.fh hs'.old, q _ F1 H1 s1 e1 (by rw [kk]; exact walk_zipF hs.old hs'.old ha ha')⟩
end
section
variable {g : Gm} {t : TA} {ρ ρ1 : Rho} {As : List Arg} {ds : List D}
/-- a call that may raise, a new thing given back -/
theorem ew_callX {R : List D → RetX → Prop} {w : Ow} {E : XK} (ha : EvA g t ρ As ρ1) (hR : R ds (.ok (.new w))) (hd : datas As = some ds := by rfl) : EvW g (tCall (spX R g.K) [] E t) ρ w ρ1 := fun c F H σ k s Q q =>
  ha c F H σ k s _ fun vs F1 H1 s1 e1 h1 => by
    have kk : c.K = g.K := k.1
    obtain ⟨fp, sf⟩ := id s1
    rw [List.append_nil, ← kk]
    refine ⟨F1, ds, .ok (.new w), s1.ft, h1.datas hd, hR, fun v F' H' t r => ?_⟩
    have t' := sf.after t
    obtain ⟨a, f, rfl, hr, hf⟩ := r
    refine q a F' H' ⟨f, fp, t', hr, fun b m => ⟨(hf b m).1, (hf b m).2.1, ?_⟩, fun j w' b z m m' => ?_⟩ (e1.trans t.f0)
    · cases z : c.B b with
      | none => rfl
      | some o => exact absurd (hf b m).2.2 (sf.dom b (by simp [z]))
    · exact (sf.ownF j w' b z m').2.1 (hf b m).2.2
theorem sv_asgEx {R : List D → RetX → Prop} {P : Out → Prop} {C : Addr} {tg : TG} (ha : EvA g t ρ As ρ1) (hR : R ds (.exc C)) (hd : datas As = some ds) (h : P (.ex C ρ1)) : Sv g (tAsg (tCall (spX R g.K) [] g.xe t) tg) ρ P := fun c F H σ D k s p =>
  ha c F H σ k.ok s _ fun vs F1 H1 s1 e1 h1 => by
    have kk : c.K = g.K := k.ok.1
    obtain ⟨fp, sf⟩ := id s1
    rw [List.append_nil, ← kk]
    refine ⟨F1, ds, .exc C, s1.ft, h1.datas hd, hR, fun F' H' t => ?_⟩
    exact p.ex _ F' H' σ C h ⟨fp, sf.after t⟩ (e1.trans t.f0)
end
end DL
namespace DL
open PySem PySem.Spec PyProof.Rows L2 SeqAt NdefX
variable {X : Cx} {P : Addr}
def WdsAt (h : Heap) (v : Value) (ws : List Str) : Prop := ∃ (a : Addr) (its : List Value), v = .ref a ∧ IsTup h a its.toArray ∧ Vals (ws.map V.str) its
theorem wds_reads {h : Heap} : ∀ {ws : List Str} {its : List Value}, Vals (ws.map V.str) its → ∃ as, ReadsAll h its (ws.map PyData.str) as
  | [], _, .nil => ⟨_, ReadsAll.nil⟩
  | w :: ws, _, .cons r t => by
    obtain ⟨k, rfl⟩ := r
    obtain ⟨as, q⟩ := wds_reads t
    exact ⟨_, ReadsAll.cons (Reads.str w k) q⟩
theorem WdsAt.reads {h : Heap} {v : Value} {ws : List Str} (x : WdsAt h v ws) : ∃ as, Reads h v (.tuple (ws.map .str)) as := by
  obtain ⟨a, its, rfl, ⟨o, ho, hc, n, hd⟩, r⟩ := x
  obtain ⟨as, q⟩ := wds_reads (h := h) r
  exact ⟨_, Reads.tuple ho hc hd q⟩
def shW (ws : List Str) : Prop := shaped (.tuple (ws.map .str)) = true
instance (ws : List Str) : Decidable (shW ws) := inferInstanceAs (Decidable (_ = true))
def neW (cs ws : List Str) : Bool := !PyData.eqv (.tuple (ws.map .str)) (.tuple (cs.map .str))
def ItmAt (K : PySem.W.Frag) (H : Hp) (mss : List (List Str)) (i : Nat) (x : V) : Prop :=
  ∃ (m y : Addr) (xs : List V) (ws : List Str), x = .ref m ∧ SqT K H m (.ref y :: xs) ∧ mss[i]? = some ws ∧ SqT K H y (ws.map V.str)
/-- any(x[0] != NAME for x in NAME2): the i-th name is walked, the j-th is captured -/
def tAnyNe [TabC] (K : PySem.W.Frag) (i j : Nat) : TE := fun σ H Q => ∃ (a w : Addr) (vs : List V) (cs : List Str) (mss : List (List Str)), σ[i]? = some (some (.ref a)) ∧ SqL K H a vs ∧ σ[j]? = some (some (.ref w)) ∧ SqT K H w (cs.map V.str) ∧ vs.length = mss.length ∧
  (∀ i x, vs[i]? = some x → ItmAt K H mss i x) ∧ shW cs ∧ (∀ ws ∈ mss, shW ws) ∧ TabsE H ∧ Q (.bl (mss.any (neW cs))) H
theorem TestOk.mono {s1 : Shared} {scope : Scope} {x : Str} {elt : Expr} {SA SA' : Nat → Value → Prop} {pb : Nat → Bool} (h : TestOk X s1 P scope x elt SA pb) (f : ∀ i v, SA' i v → SA i v) : TestOk X s1 P scope x elt SA' pb :=
  fun L code bi A' E' i v s2 m2 a b c => h L code bi A' E' i v s2 m2 a b (f i v c)
theorem iter_list {s1 : Shared} {a : Addr} {its : Array Value} (hl : s1.heap.IsList a its) : IterAt X s1 (.ref a) [a] its.size (fun i v => its[i]? = some v) := by
  intro A E Q hq
  have lt : a < s1.heap.objs.size := let ⟨o, h, _⟩ := hl; Heap.lt_size h
  refine wpAny_pyIter_list hl (hq _ _ (fun A' hA => Walks.list hA s1.heap.objs.size a (Nat.ne_of_lt lt) its) ⟨⟨_, Heap.get?_push_size _ rfl, rfl, rfl⟩, ?_⟩)
  obtain ⟨o, h, r⟩ := hl
  exact ⟨o, Heap.get?_push_of_some _ h, r⟩
def strsD : List D → Option (List Str)
  | [] => some []
  | .str s :: r => (strsD r).map (s :: ·)
  | _ :: _ => none
theorem strsD_eq : ∀ {ds : List D} {ws : List Str}, strsD ds = some ws → ds = ws.map .str
  | [], ws, h => by cases h; rfl
  | d :: r, ws, h => by
    cases d with
    | str s =>
      unfold strsD at h
      obtain ⟨ms, hm, rfl⟩ := Option.map_eq_some_iff.mp h
      rw [strsD_eq hm]
      rfl
    | _ => cases h
def headsD : List D → Option (List (List Str))
  | [] => some []
  | .tuple (.tuple ds :: _) :: r => (strsD ds).bind fun ws => (headsD r).map (ws :: ·)
  | _ :: _ => none
theorem headsD_at : ∀ {ms : List D} {mss : List (List Str)}, headsD ms = some mss → mss.length = ms.length ∧ ∀ (i : Nat) (d : D), ms[i]? = some d → ∃ (ws : List Str) (r : List D), mss[i]? = some ws ∧ d = PyData.tuple (.tuple (ws.map .str) :: r)
  | [], mss, h => by cases h; exact ⟨rfl, fun i d e => by simp at e⟩
  | .tuple (.tuple ds :: rr) :: r, mss, h => by
    unfold headsD at h
    obtain ⟨ws, h1, h⟩ := Option.bind_eq_some_iff.mp h
    obtain ⟨ms, hm, rfl⟩ := Option.map_eq_some_iff.mp h
    obtain ⟨l, q⟩ := headsD_at hm
    refine ⟨by simp [l], fun i d e => ?_⟩
    cases i with
    | zero =>
      rw [strsD_eq h1] at e
      exact ⟨ws, rr, rfl, (Option.some.inj (by simpa using e)).symm⟩
    | succ i => exact q i d (by simpa using e)
  | .tuple [] :: _, _, h => by cases h
  | .tuple (.none :: _) :: _, _, h => by cases h
  | .tuple (.bool _ :: _) :: _, _, h => by cases h
  | .tuple (.int _ :: _) :: _, _, h => by cases h
  | .tuple (.str _ :: _) :: _, _, h => by cases h
  | .tuple (.list _ :: _) :: _, _, h => by cases h
  | .tuple (.dict _ :: _) :: _, _, h => by cases h
  | .none :: _, _, h => by cases h
  | .bool _ :: _, _, h => by cases h
  | .int _ :: _, _, h => by cases h
  | .str _ :: _, _, h => by cases h
  | .list _ :: _, _, h => by cases h
  | .dict _ :: _, _, h => by cases h
theorem vals_strs {K : PySem.W.Frag} {F : Hp} : ∀ {ws : List Str} {vs : List V}, DxAll K F vs (ws.map PyData.str) → vs = ws.map V.str
  | [], _, h => by cases h; rfl
  | w :: ws, _, h => by
    cases h with
    | cons a b =>
      cases a
      rw [vals_strs b]
      rfl
theorem ed_anyNe [TabC] {g : Gm} {ρ : Rho} {i j : Nat} {ms ds : List D} {mss : List (List Str)} {cs : List Str} (h1 : ρ[i]? = some (.dat (.list ms))) (h2 : ρ[j]? = some (.dat (.tuple ds))) (hm : headsD ms = some mss) (hc : strsD ds = some cs) (hcs : shW cs) (hms : ∀ ws ∈ mss, shW ws) :
    EvD g (tAnyNe g.K i j) ρ (.bool (mss.any (neW cs))) ρ := fun c F H σ k s Q q => by
  have kk : c.K = g.K := k.1
  obtain ⟨fp, sf⟩ := id s
  obtain ⟨v, e1, x1⟩ := sf.dat i _ h1
  obtain ⟨w, e2, x2⟩ := sf.dat j _ h2
  rw [strsD_eq hc] at x2
  obtain ⟨hl, hh⟩ := headsD_at hm
  cases x1 with
  | lst hs ha =>
    cases x2 with
    | tup hs' ha' =>
      rw [kk] at hs ha hs' ha'
      have ev := vals_strs ha'
      subst ev
      have hln := dpAllLen ha
      refine ⟨_, _, _, cs, mss, e1, slUp sf.fh hs, e2, stUp sf.fh hs'.old, by omega, fun n x e => ?_, hcs, hms, s.tabs, q _ F H s (Same.refl _) (.bl _)⟩
      obtain ⟨d, e3, x3⟩ := dpAllGetV ha e
      obtain ⟨ws, r, e4, rfl⟩ := hh n d e3
      cases x3 with
      | tup ht hta =>
        cases hta with
        | cons hy hr =>
          cases hy with
          | tup hty htya =>
            have ev := vals_strs htya
            subst ev
            exact ⟨_, _, _, ws, rfl, stUp sf.fh ht.old, e4, stUp sf.fh hty.old⟩
end DL
namespace DL
open PySem PySem.Spec PyProof.Rows L2
variable [TabC]
section
variable {g : Gm}
/-- what is known of the growing list -/
structure Grow (c : Cc) (Dl : Addr) (F H : Hp) (σ : L2.St) (ρ : Rho) (fp : Nat → List Addr) (acc : List V) (out : List D) : Prop where
  s : SimF c F H σ ρ fp
  at_ : H Dl = some (.lst acc)
  no : F Dl = none
  off : ∀ (j : Nat) (w : Ow), ρ[j]? = some (.own w) → Dl ∉ fp j
  ha : DxAll c.K F acc out
/-- behind steps over the heap as it stands -/
theorem Grow.behind {c : Cc} {Dl : Addr} {F H F5 H5 : Hp} {σ σ5 : L2.St} {ρ ρ5 : Rho} {fp fp5 : Nat → List Addr} {acc : List V} {out : List D} (G : Grow c Dl F H σ ρ fp acc out) (s5 : SimF (c.re F H (ownW ρ fp)) F5 H5 σ5 ρ5 fp5) (e : Same F F5) : Grow c Dl F5 H5 σ5 ρ5 fp5 acc out := by
  have nW : ¬ ownW ρ fp Dl := fun ⟨j, w, q, m⟩ => G.off j w q m
  refine ⟨G.s.un s5, s5.keep Dl _ G.at_ nW (G.s.ti.noLam fun u e => by rw [G.at_] at e; cases e; exact notLst), s5.av Dl (by show H Dl ≠ none; rw [G.at_]; simp) G.no, fun j w q m => ?_, dpAllUp e G.ha⟩
  rcases (s5.ownF j w Dl q m).2.2 with z | z
  · rw [show (c.re F H (ownW ρ fp)).B Dl = H Dl from rfl, G.at_] at z; cases z
  · exact nW z
theorem Grow.app {c : Cc} {Dl : Addr} {F H : Hp} {σ : L2.St} {ρ : Rho} {fp : Nat → List Addr} {acc : List V} {out : List D} {v : V} {d : D} (G : Grow c Dl F H σ ρ fp acc out) (hBD : c.B Dl = none) (x : Dx c.K F v d) :
    Grow c Dl F (upd H Dl (.lst (acc ++ [v]))) σ ρ fp (acc ++ [v]) (out ++ [d]) :=
  ⟨G.s.other G.no hBD G.off (fun u e => by rw [G.at_] at e; cases e; exact notLst), upd_same, G.no, G.off, dpAllApp G.ha (.cons x .nil)⟩
theorem Grow.slots {c : Cc} {Dl : Addr} {F H : Hp} {σ σ' : L2.St} {ρ ρ' : Rho} {fp : Nat → List Addr} {acc : List V} {out : List D} {vs : List Nat} (G : Grow c Dl F H σ ρ fp acc out) (hσ : ∀ j : Nat, j ∉ vs → σ'[j]? = σ[j]?) (hb : Back vs ρ ρ') (hP : ∀ i a, (i, a) ∈ c.P → i ∉ vs) (hl : σ'.length = ρ'.length) :
    Grow c Dl F H σ' ρ' fp acc out :=
  ⟨G.s.slots vs hσ hb.2.1 hb.2.2 hP hl, G.at_, G.no, fun j w q => by
    by_cases mm : j ∈ vs
    · cases hb.2.1 j mm _ q
    · exact G.off j w (by rw [← hb.2.2 j mm]; exact q), G.ha⟩
/-- the turns of a clause, from a list that has begun to grow -/
theorem lc_loop {c : Cc} {Dl : Addr} {F1 H1 : Hp} {σ : L2.St} {fp : Nat → List Addr} {acc0 : List V} {out0 : List D} {vs : List Nat} {t : TG} {te : TE} {n : Nat} {xs ds : Nat → D} {J : It}
    (E : Nat → Rho) (k : c.ok g) (G : Grow c Dl F1 H1 σ (E 0) fp acc0 out0) (hBD : c.B Dl = none) (w : WalkD c.K F1 J n xs) (hz : out0.length + n < sizeLine) (hv : ∀ i, i ∈ vs → i ∉ g.ps) (hE : ∀ i, i ≤ n → ∀ j : Nat, j ∈ vs → ∀ e : Ent, (E i)[j]? = some e → e = .no)
    (hs : ∀ i, i < n → ∃ ρ2 ρ4, TgC g t vs (xs i) (E i) ρ2 ∧ EvD g te ρ2 (ds i) ρ4 ∧ Back vs ρ4 (E (i + 1))) (Fin : Hp → Prop) (hFin : ∀ F' H' fp' acc', Same F1 F' → Grow c Dl F' H' σ (E n) fp' acc' (out0 ++ (List.range n).map ds) → Fin H') :
    ∃ W : Nat → Nat → Hp → Prop, (∃ m, W 0 m H1) ∧ ∀ j m H, W j m H → (J.stop j H ∧ Fin H) ∨ (J.go j H ∧ ∃ Nx : Hp → Prop, (∀ H', Nx H' → ∃ m', m' < m ∧ W (j + 1) m' H') ∧ ∀ x H', J.yld j H x H' → t x (wipe σ vs) H' fun σ3 H5 => wipe σ3 vs = wipe σ vs ∧ tYes σ3 H5 fun b H6 =>
      if b = true then te σ3 H6 fun y H7 => ∃ acc, H7 Dl = some (.lst acc) ∧ acc.length < sizeLine ∧ Nx (upd H7 Dl (.lst (acc ++ [y]))) else Nx H6) := by
  have hP : ∀ i a, (i, a) ∈ c.P → i ∉ vs := fun i a m m' => hv i m' (by rw [← k.2]; exact List.mem_map.mpr ⟨(i, a), m, rfl⟩)
  have hP' : ∀ i, i ∉ g.ps → ∀ a, (i, a) ∉ c.P := fun i m a m' => m (by rw [← k.2]; exact List.mem_map.mpr ⟨(i, a), m', rfl⟩)
  have kk : c.K = g.K := k.1
  let out : Nat → List D := fun i => out0 ++ (List.range i).map ds
  have olen : ∀ i, (out i).length = out0.length + i := fun i => by simp only [out, List.length_append, List.length_map, List.length_range]
  refine ⟨fun i m H' => m = n - i ∧ i ≤ n ∧ ∃ F' fp acc, Same F1 F' ∧ Grow c Dl F' H' σ (E i) fp acc (out i), ⟨n, rfl, Nat.zero_le _, F1, fp, acc0, Same.refl _, by simpa [out] using G⟩, ?_⟩
  rintro i m H2 ⟨rfl, hin, F2, fp2, acc, e2, G2⟩
  obtain ⟨w1, w2, w3⟩ := w F2 H2 e2 G2.s.fh
  by_cases hlt : i < n
  · refine .inr ⟨w1 i hlt, fun H' => ∃ F' fp acc, Same F1 F' ∧ Grow c Dl F' H' σ (E (i + 1)) fp acc (out (i + 1)), fun H' z => ⟨n - (i + 1), by omega, rfl, by omega, z⟩, fun x H3 y => ?_⟩
    obtain ⟨F3, rs⟩ := w3 i x H3 hlt y
    let c2 := c.re F2 H2 (ownW (E i) fp2)
    have k2 : c2.ok g := k
    have sr : Sim c2 F2 H2 σ (E i) := ⟨fp2, G2.s.re⟩
    obtain ⟨s3, e3, x3⟩ := rs.sim (c := c2) sr
    have sw : Sim c2 F3 H3 (wipe σ vs) (E i) := by
      obtain ⟨fp3, s3⟩ := s3
      exact ⟨fp3, s3.slots vs (fun j m => wipe_at m) (fun j m e q => hE i (by omega) j m e q) (fun _ _ => rfl) hP (by rw [wipe_length]; exact s3.len)⟩
    obtain ⟨ρ2, ρ4, ht, hte, hback⟩ := hs i hlt
    refine ht c2 F3 H3 (wipe σ vs) x hP' kk sw x3 _ fun σ2 sg hlen hσ2 => ?_
    have hσ : ∀ j : Nat, j ∉ vs → σ2[j]? = σ[j]? := fun j m => (hσ2 j m).trans (wipe_at m)
    refine ⟨wipe_ext (by rw [hlen, wipe_length]) hσ, ?_⟩
    show te σ2 H3 _
    refine hte c2 F3 H3 σ2 k2 sg _ fun v F5 H5 s5 e5 x5 => ?_
    obtain ⟨fp5, s5⟩ := s5
    have e25 : Same F2 F5 := e3.trans e5
    have hl : σ.length = (E (i + 1)).length := by
      have h1 := s5.len
      have h2 := hback.1
      have h3 := hlen
      rw [wipe_length] at h3
      omega
    have s6 : SimF c2 F5 H5 σ (E (i + 1)) fp5 := s5.slots vs (fun j m => (hσ j m).symm) hback.2.1 hback.2.2 hP hl
    have G5 := G2.behind s6 e25
    have hlen2 : acc.length < sizeLine := by rw [dpAllLen G2.ha, olen]; omega
    have eo : out (i + 1) = out i ++ [ds i] := by
      simp only [out]
      rw [List.range_succ, List.map_append, List.append_assoc]
      rfl
    exact ⟨acc, G5.at_, hlen2, F5, fp5, acc ++ [v], e2.trans e25, by rw [eo]; exact G5.app hBD x5⟩
  · have e : i = n := by omega
    subst e
    exact .inl ⟨w2, hFin F2 H2 fp2 acc e2 G2⟩
theorem en_lc2 {wi wi1 : TI} {t t1 : TG} {te : TE} {vs vs1 : List Nat} {ρ ρ1 : Rho} {n : Nat} {xs : Nat → D} (hi : EvI g wi ρ n xs ρ1) (E : Nat → Rho) (L : Nat → List D) (h0 : E 0 = ρ1)
    (hz : ∀ i, i < n → ((List.range i).flatMap L).length + (L i).length < sizeLine) (hv : ∀ i, i ∈ vs → i ∉ g.ps) (hv1 : ∀ i, i ∈ vs1 → i ∈ vs) (hE : ∀ i, i ≤ n → ∀ j : Nat, j ∈ vs → ∀ e : Ent, (E i)[j]? = some e → e = .no)
    (hs : ∀ i, i < n → ∃ (ρ2 : Rho) (m : Nat) (ys ds : Nat → D) (E1 : Nat → Rho), L i = (List.range m).map ds ∧ TgC g t vs (xs i) (E i) ρ2 ∧ EvI g wi1 ρ2 m ys (E1 0) ∧ (∀ l, l ≤ m → ∀ j : Nat, j ∈ vs1 → ∀ e : Ent, (E1 l)[j]? = some e → e = .no) ∧
      (∀ l, l < m → ∃ ρ3 ρ4, TgC g t1 vs1 (ys l) (E1 l) ρ3 ∧ EvD g te ρ3 (ds l) ρ4 ∧ Back vs1 ρ4 (E1 (l + 1))) ∧ Back vs (E1 m) (E (i + 1))) :
    EvN g (tLc2 wi t tYes wi1 t1 tYes te vs vs1) ρ ((List.range n).flatMap L) (E n) := fun c F H σ k s Q q => by
  refine hi c F H σ k s _ fun J F1 H1 s1 e1 w Dl hD => ?_
  subst h0
  have hBD : c.B Dl = none := by
    obtain ⟨fp, sf⟩ := id s1
    cases z : c.B Dl with
    | none => rfl
    | some u => exact absurd hD (sf.dom Dl (by simp [z]))
  have hP : ∀ i a, (i, a) ∈ c.P → i ∉ vs := fun i a m m' => hv i m' (by rw [← k.2]; exact List.mem_map.mpr ⟨(i, a), m, rfl⟩)
  have hP' : ∀ i, i ∉ g.ps → ∀ a, (i, a) ∉ c.P := fun i m a m' => m (by rw [← k.2]; exact List.mem_map.mpr ⟨(i, a), m', rfl⟩)
  have kk : c.K = g.K := k.1
  let out : Nat → List D := fun i => (List.range i).flatMap L
  refine ⟨fun i r H' => r = n - i ∧ i ≤ n ∧ ∃ F' fp acc, Same F1 F' ∧ Grow c Dl F' H' σ (E i) fp acc (out i), ⟨n, rfl, Nat.zero_le _, ?_⟩, ?_⟩
  · obtain ⟨fp, sf⟩ := s1
    have fD := freeF sf.fh hD
    have no : ∀ (j : Nat) (w : Ow), (E 0)[j]? = some (.own w) → Dl ∉ fp j := fun j w q m => (sf.ownF j w Dl q m).2.1 hD
    exact ⟨F1, fp, [], Same.refl _, sf.other fD hBD no (fun u e => by rw [hD] at e; cases e), upd_same, fD, no, .nil⟩
  · rintro i r H2 ⟨rfl, hin, F2, fp2, acc, e2, G2⟩
    obtain ⟨w1, w2, w3⟩ := w F2 H2 e2 G2.s.fh
    by_cases hlt : i < n
    · refine .inr ⟨w1 i hlt, fun H' => ∃ F' fp acc, Same F1 F' ∧ Grow c Dl F' H' σ (E (i + 1)) fp acc (out (i + 1)), fun H' z => ⟨n - (i + 1), by omega, rfl, by omega, z⟩, fun x H3 y => ?_⟩
      obtain ⟨F3, rs⟩ := w3 i x H3 hlt y
      let c2 := c.re F2 H2 (ownW (E i) fp2)
      have k2 : c2.ok g := k
      have sr : Sim c2 F2 H2 σ (E i) := ⟨fp2, G2.s.re⟩
      obtain ⟨s3, e3, x3⟩ := rs.sim (c := c2) sr
      have sw : Sim c2 F3 H3 (wipe σ vs) (E i) := by
        obtain ⟨fp3, s3⟩ := s3
        exact ⟨fp3, s3.slots vs (fun j m => wipe_at m) (fun j m e q => hE i (by omega) j m e q) (fun _ _ => rfl) hP (by rw [wipe_length]; exact s3.len)⟩
      obtain ⟨ρ2, m, ys, ds, E1, eL, ht, hi1, hE1, hs1, hback⟩ := hs i hlt
      refine ht c2 F3 H3 (wipe σ vs) x hP' kk sw x3 _ fun σ2 sg hlen hσ2 => ?_
      have hσ : ∀ j : Nat, j ∉ vs → σ2[j]? = σ[j]? := fun j m => (hσ2 j m).trans (wipe_at m)
      refine ⟨wipe_ext (by rw [hlen, wipe_length]) hσ, ?_⟩
      show wi1 σ2 H3 _
      refine hi1 c2 F3 H3 σ2 k2 sg _ fun J1 F4 H4 s4 e4 w4 => ?_
      obtain ⟨fp4, s4⟩ := s4
      have G4 := G2.behind s4 (e3.trans e4)
      have eo : out (i + 1) = out i ++ (List.range m).map ds := by
        simp only [out]
        rw [List.range_succ, List.flatMap_append, ← eL]
        simp
      have hzi := hz i hlt
      rw [eL, List.length_map, List.length_range] at hzi
      exact lc_loop E1 k G4 hBD w4 hzi (fun j mj => hv j (hv1 j mj)) hE1 hs1 _ fun F' H' fp' acc' e' G' => ⟨F', fp', acc', (e2.trans (e3.trans e4)).trans e', by rw [eo]; exact G'.slots (fun j mj => (hσ j mj).symm) hback hP (by
        have h1 := G'.s.len
        have h2 := hback.1
        have h3 := hlen
        rw [wipe_length] at h3
        omega)⟩
    · have e : i = n := by omega
      subst e
      refine .inl ⟨w2, ?_⟩
      let Hb : Hp := fun a => if a = Dl then none else H2 a
      have eH : H2 = upd Hb Dl (.lst acc) := by
        funext a
        by_cases z : a = Dl
        · subst z; rw [upd_same, G2.at_]
        · rw [upd_ne z]; simp [Hb, z]
      have at' : ∀ a, a ≠ Dl → Hb a = H2 a := fun a z => by simp [Hb, z]
      have s2 := G2.s
      have sb : SimF c F2 Hb σ (E i) fp2 := by
        refine ⟨s2.f0, fun a o z => ?_, fun a o z w' l' => ?_, fun a z => ?_, s2.av, s2.par, s2.dat, fun j w' z => ?_, fun j w' b z m => ?_, s2.sep, s2.len, s2.wp, s2.pb, s2.tb, s2.tw, s2.tl, s2.ti.but (fun u e => by rw [G2.at_] at e; cases e; exact notLst) at', s2.fl⟩
        · have : a ≠ Dl := fun z' => by rw [z', G2.no] at z; cases z
          rw [at' a this]
          exact s2.fh a o z
        · have : a ≠ Dl := fun z' => by rw [z', hBD] at z; cases z
          rw [at' a this]
          exact s2.keep a o z w' l'
        · have : a ≠ Dl := fun z' => by rw [z', hBD] at z; exact z rfl
          rw [at' a this]
          exact s2.dom a z
        · obtain ⟨a, h1, h2⟩ := s2.own j w' z
          exact ⟨a, h1, h2.up (Same.refl _) fun b m => at' b fun z' => G2.off j w' z (z' ▸ m)⟩
        · obtain ⟨h1, h2, h3⟩ := s2.ownF j w' b z m
          exact ⟨h1, by rw [at' b fun z' => G2.off j w' z (z' ▸ m)]; exact h2, h3⟩
      rw [eH]
      exact q Dl acc F2 Hb ⟨fp2, sb⟩ (e1.trans e2) (by simp [Hb]) G2.ha
end
end DL
namespace DL
open PySem PySem.Spec PyProof.Rows L2
inductive AllD (R : V → D → Prop) : List V → List D → Prop
  | nil : AllD R [] []
  | cons {v : V} {d : D} {xs : List V} {ds : List D} : R v d → AllD R xs ds → AllD R (v :: xs) (d :: ds)
theorem ofAllD {K : PySem.W.Frag} {F : Hp} : ∀ {vs : List V} {ds : List D}, AllD (Dx K F) vs ds → DxAll K F vs ds
  | _, _, .nil => .nil
  | _, _, .cons a b => .cons a (ofAllD b)
theorem each_of {R : V → D → Prop} {S : Value → D → Prop} (f : ∀ v d u, R v d → RelV v u → S u d) : ∀ {vs : List V} {ds : List D} {us : List Value}, AllD R vs ds → Vals vs us → PySem.W.EachIs S us ds
  | _, _, _, .nil, .nil => .nil
  | _, _, _, .cons a b, .cons r rs => .cons (f _ _ _ a r) (each_of f b rs)
theorem each_back {R : V → D → Prop} : ∀ {us : List Value} {ds : List D}, PySem.W.EachIs (fun u d => ∃ v, RelV v u ∧ R v d) us ds → ∃ ys, Vals ys us ∧ AllD R ys ds
  | _, _, .nil => ⟨[], .nil, .nil⟩
  | _, _, .cons ⟨v, r, a⟩ t => let ⟨ys, rs, b⟩ := each_back t; ⟨v :: ys, .cons r rs, .cons a b⟩
def sortedD (ds : List D) : List D := ds.mergeSort (PySem.W.dataLe false id)
def rSrtD (K : PySem.W.Frag) : List V → Hp → VK → Prop := fun vs H Q => ∃ (a : Addr) (xs : List V) (ds : List D) (R : V → D → Prop), vs = [.ref a] ∧ SqL K H a xs ∧ (∀ v d, d ∈ ds → R v d → Dp K H v d) ∧ AllD R xs ds ∧ PySem.W.AllAlike ds ∧ PySem.W.Sortable ds ∧ (∀ d ∈ ds, d.depth ≤ 62) ∧
  ∀ ys p, AllD R ys (sortedD ds) → H p = none → Q (.ref p) (upd H p (.lst ys))
theorem allD_len {R : V → D → Prop} : ∀ {vs : List V} {ds : List D}, AllD R vs ds → vs.length = ds.length
  | _, _, .nil => rfl
  | _, _, .cons _ b => by rw [List.length_cons, List.length_cons, allD_len b]
theorem allD_mem {R : V → D → Prop} : ∀ {vs : List V} {ds : List D}, AllD R vs ds → AllD (fun v d => R v d ∧ d ∈ ds) vs ds
  | _, _, .nil => .nil
  | _, _, .cons (d := d) (ds := ds) a b => by
    refine .cons ⟨a, List.mem_cons_self⟩ ?_
    have go : ∀ {vs : List V} {es : List D}, AllD (fun v d => R v d ∧ d ∈ ds) vs es → AllD (fun v e => R v e ∧ e ∈ d :: ds) vs es := fun {vs es} h => by
      induction h with
      | nil => exact .nil
      | cons q _ ih => exact .cons ⟨q.1, List.mem_cons_of_mem _ q.2⟩ ih
    exact go (allD_mem b)
theorem cr_srtD {X : Cx} (hu : X.A.units + 64 < cLine) : CallR X (.builtin "sorted") (rSrtD X.K) := fun pins s σ H vs us Q I r h => by
  obtain ⟨a, xs, ds, R, rfl, hs, hR, hA, al, st, dp, q⟩ := h
  obtain ⟨its, rv, hl, hz⟩ := I.list hs
  obtain ⟨w, rfl, rw1⟩ := vals1 r
  obtain rfl : w = Value.ref a := rw1
  have ln : ds.length ≤ sizeLine := by rw [← allD_len hA]; exact hz
  refine PySem.W.sorted_data (bs := ds) (enc := id) (R := fun u d => ∃ v, RelV v u ∧ R v d) hl.isList (each_of (fun v d u a r => ⟨v, r, a⟩) hA rv) (each_of (R := fun v d => R v d ∧ d ∈ ds) (fun v d u a r => Dp.reads I d v u (hR v d a.2 a.1) r) (allD_mem hA) rv) (by rw [List.map_id]; exact al) (by rw [List.map_id]; exact st) ln (fun d m => by have := dp d m; show X.A.units + 2 + d.depth < cLine; omega) fun out ol eo => ?_
  obtain ⟨ys, rvy, dy⟩ := each_back eo
  obtain ⟨ep, he⟩ := sortedAll_at s.heap its out.toArray
  have yl : ys.length ≤ sizeLine := by rw [rvy.length, ol]; exact ln
  exact ⟨.ref _, upd H (s.heap.objs.size + 1) (.lst ys), I.laid (t' := s.toks) (fun _ _ => sortedAll_old) (Nat.le_succ _) ⟨yl, out, ep, rvy, he⟩, rfl, q ys _ dy (I.hok.fresh (Nat.le_succ _))⟩
variable [TabC]
end DL
namespace DL
open PySem PySem.Spec PyProof.Rows L2 SeqAt NdefX
variable {X : Cx} {P : Addr}
mutual
/-- a nested key as it stands in the heap, no truth value within -/
inductive NkS (h : Heap) : NK → Value → Prop
  | none : NkS h .none .none
  | int (i : Int) (t : Tok) : NkS h (.num i) (.int i t)
  | text (x : Str) (t : Tok) : NkS h (.text x) (.str x t)
  | tup {a : Addr} {o : Obj} {vs : Array Value} {n : Nat} {ks : List NK} : h.get? a = some o → o.cls = .type "tuple" → o.data = .seq vs n → NkSs h ks vs.toList → NkS h (.tup ks) (.ref a)
inductive NkSs (h : Heap) : List NK → List Value → Prop
  | nil : NkSs h [] []
  | cons {k : NK} {v : Value} {ks : List NK} {vs : List Value} : NkS h k v → NkSs h ks vs → NkSs h (k :: ks) (v :: vs)
end
mutual
theorem NkS.is {h : Heap} : ∀ (k : NK) (v : Value), NkS h k v → NestedIs h k v
  | .none, v, q => by cases q; exact .none
  | .num i, v, q => by cases q; exact .int _ _
  | .text x, v, q => by cases q; exact .text _ _
  | .tup ks, v, q => by
    cases q with
    | tup e c d a => exact .tup e c d (NkSs.is ks _ a)
theorem NkSs.is {h : Heap} : ∀ (ks : List NK) (vs : List Value), NkSs h ks vs → NestedAll h ks vs
  | [], vs, q => by cases q; exact .nil
  | k :: ks, vs, q => by
    cases q with
    | cons a b => exact .cons (NkS.is k _ a) (NkSs.is ks _ b)
end
mutual
theorem NkS.reads {h : Heap} : ∀ (k : NK) (v : Value), NkS h k v → ∃ as, Reads h v k.data as
  | .none, v, q => by cases q; rw [NestedKey.data]; exact ⟨_, .none⟩
  | .num i, v, q => by cases q; rw [NestedKey.data]; exact ⟨_, .int _ _⟩
  | .text x, v, q => by cases q; rw [NestedKey.data]; exact ⟨_, .str _ _⟩
  | .tup ks, v, q => by
    cases q with
    | tup e c d a =>
      obtain ⟨as, r⟩ := NkSs.reads ks _ a
      rw [NestedKey.data]
      exact ⟨_, .tuple e c d r⟩
theorem NkSs.reads {h : Heap} : ∀ (ks : List NK) (vs : List Value), NkSs h ks vs → ∃ as, ReadsAll h vs (NestedKey.datas ks) as
  | [], vs, q => by cases q; rw [NestedKey.datas]; exact ⟨_, .nil⟩
  | k :: ks, vs, q => by
    cases q with
    | cons a b =>
      obtain ⟨as, r⟩ := NkS.reads k _ a
      obtain ⟨bs, t⟩ := NkSs.reads ks _ b
      rw [NestedKey.datas]
      exact ⟨_, .cons r t⟩
end
mutual
theorem NkS.to {h h' : Heap} (f : ∀ a o vs n, h.get? a = some o → o.data = .seq vs n → h'.get? a = some o) : ∀ (k : NK) (v : Value), NkS h k v → NkS h' k v
  | .none, v, q => by cases q; exact .none
  | .num i, v, q => by cases q; exact .int _ _
  | .text x, v, q => by cases q; exact .text _ _
  | .tup ks, v, q => by
    cases q with
    | tup e c d a => exact .tup (f _ _ _ _ e d) c d (NkSs.to f ks _ a)
theorem NkSs.to {h h' : Heap} (f : ∀ a o vs n, h.get? a = some o → o.data = .seq vs n → h'.get? a = some o) : ∀ (ks : List NK) (vs : List Value), NkSs h ks vs → NkSs h' ks vs
  | [], vs, q => by cases q; exact .nil
  | k :: ks, vs, q => by
    cases q with
    | cons a b => exact .cons (NkS.to f k _ a) (NkSs.to f ks _ b)
end
mutual
theorem nkS_of {X : Cx} {pins : List (Addr × Obj)} {σ : L2.St} {H : Hp} {s : Shared} (I : L2.Inv X pins σ H s) : ∀ (k : NK) (v : V) (u : Value), Dx X.K H v k.data → RelV v u → NkS s.heap k u
  | .none, v, u, h, r => by
    rw [NestedKey.data] at h
    cases h
    cases (show u = Value.none from r)
    exact .none
  | .num i, v, u, h, r => by
    rw [NestedKey.data] at h
    cases h
    obtain ⟨t, rfl⟩ := (show ∃ t, u = Value.int i t from r)
    exact .int i t
  | .text x, v, u, h, r => by
    rw [NestedKey.data] at h
    cases h
    obtain ⟨t, rfl⟩ := (show ∃ t, u = Value.str x t from r)
    exact .text x t
  | .tup ks, v, u, h, r => by
    rw [NestedKey.data] at h
    cases h with
    | tup t a =>
      rename_i b xs
      cases (show u = Value.ref b from r)
      obtain ⟨its, vs, ⟨o, e, cl, n, dt⟩, _⟩ := I.tuple t.old
      exact .tup e cl dt (nkSs_of I ks xs its a vs)
theorem nkSs_of {X : Cx} {pins : List (Addr × Obj)} {σ : L2.St} {H : Hp} {s : Shared} (I : L2.Inv X pins σ H s) : ∀ (ks : List NK) (xs : List V) (us : List Value), DxAll X.K H xs (NestedKey.datas ks) → Vals xs us → NkSs s.heap ks us
  | [], xs, us, h, r => by
    rw [NestedKey.datas] at h
    cases h
    cases r
    exact .nil
  | k :: ks, xs, us, h, r => by
    rw [NestedKey.datas] at h
    cases h with
    | cons h t =>
      cases r with
      | cons r1 r2 => exact .cons (nkS_of I k _ _ h r1) (nkSs_of I ks _ _ t r2)
end
/-- sequences stay -/
theorem seq_old {s1 s2 : Shared} {pins : List (Addr × Obj)} {σ : L2.St} {H1 : Hp} (I : Inv X pins σ H1 s1) (hP : H1 P = some (.ext (tabP P))) (old : Old P s1 s2) : ∀ a o vs n, s1.heap.get? a = some o → o.data = .seq vs n → s2.heap.get? a = some o := fun a o vs n e d => by
  obtain ⟨⟨ps, e1, _⟩, _, _⟩ := (show ObjOk X.prog X.w H1 s1.heap P (.ext (tabP P)) from I.hok P _ hP)
  refine old a o (fun z => ?_) e
  subst z
  rw [e1] at e
  cases e
  cases d
def inB (ks : KsV) (k0 k : NK) : Bool := (valX ks k).isSome && !PyData.eqv k.data k0.data
def inAt (ks : KsV) (k0 : NK) (mks : List NK) (i : Nat) : Bool := match mks[i]? with
  | some k => inB ks k0 k
  | none => false
theorem test_inX {s1 : Shared} {scope : Scope} {x y z : Str} {pins : List (Addr × Obj)} {σ : L2.St} {H1 : Hp} {us : List Value} {mks : List NK} {k0 : NK} {a c c2 : Addr} {ks : KsV} {wv : Value} {k : Nat} {p1 p2 p3 p4 p5 p6 p7 : Pos}
    (hr : Room k X.A) (I : Inv X pins σ H1 s1) (hP : H1 P = some (.ext (tabP P))) (hk : scope.kind = .function) (hl : scope.names.lookup x = some .local) (hy : scope.names.lookup y = some .free) (hz : scope.names.lookup z = some .free)
    (hc : (cloFrom X.env.cells scope.names []).lookup y = some c) (hv : s1.heap.IsCell c (some (.ref a))) (hc2 : (cloFrom X.env.cells scope.names []).lookup z = some c2) (hv2 : s1.heap.IsCell c2 (some wv)) (hw : NkS s1.heap k0 wv)
    (at_ : H1 a = some (dTO X.w a ks)) (all : ∀ z ∈ ks, z.1.depth ≤ 8 ∧ Dx X.K H1 (.ref z.2.1) z.1.data) (hms : ∀ k ∈ mks, k.depth ≤ 8 ∧ shaped k.data = true) (hk0 : shaped k0.data = true)
    (hd : (x == ("__debug__" : Str)) = false := by decide) (hd2 : (y == ("__debug__" : Str)) = false := by decide) (hn : (y == ("__classdict__" : Str)) = false := by decide) (hd3 : (z == ("__debug__" : Str)) = false := by decide) (hn3 : (z == ("__classdict__" : Str)) = false := by decide) :
    TestOk X s1 P scope x (.BoolOp .And [.Compare (.Name x p1) [.In] [.Name y p2] p3, .Compare (.Name x p4) [.NotEq] [.Name z p5] p6] p7) (fun i v => us[i]? = some v ∧ ∃ k b, mks[i]? = some k ∧ v = .ref b ∧ NkS s1.heap k v) (inAt ks k0 mks) := by
  intro L code bi A' E' i v s2 m2 _ hu hv' old hns hx
  obtain ⟨_, kk, b, hi, rfl, nk⟩ := hv'
  have sq := seq_old I hP old
  obtain ⟨⟨ps, e1, _⟩, _, _⟩ := (show ObjOk X.prog X.w H1 s1.heap P (.ext (tabP P)) from I.hok P _ hP)
  have cell : ∀ {c : Addr} {w : Value}, s1.heap.IsCell c (some w) → s2.heap.IsCell c (some w) := fun {c w} hv => by
    obtain ⟨o, ho, hd⟩ := hv
    refine ⟨o, old c o (fun z => ?_) ho, hd⟩
    subst z
    rw [e1] at ho
    cases ho
    cases hd
  have hroom : A'.units + 64 < cLine := by have := hr.un; omega
  obtain ⟨zs, rel, hsys, _, o, es, ep, q1, q2, q3, q4, q5, q6⟩ := xobj I at_ all
  have aP : a ≠ P := fun z => by
    subst z
    rw [e1] at q1
    cases q1
    cases q3
  have dd2 : s2.heap.DictOfH (nestedKind X.prog X.w) a zs := ⟨o, es, ep, old a o aP q1, q2, q3, q4, fun z m => ⟨NestedIs.at sq _ _ (q5 z m).1, (q5 z m).2⟩, q6⟩
  obtain ⟨dep, shp⟩ := hms kk (List.mem_of_getElem? hi)
  have nk2 := NkS.to sq kk _ nk
  have e : (valX ks kk).isSome = (atKey zs kk).isSome := by
    rcases relz_val kk rel with ⟨z1, z2⟩ | ⟨v, p, z1, z2, _⟩ <;> rw [z1, z2] <;> rfl
  have fin : inAt ks k0 mks i = inB ks k0 kk := by unfold inAt; rw [hi]
  refine wpAny_And2 (wpAny_Compare1 (wpAny_Name (wpAny_loadName_local hk (show scope.names.lookup x = some .local from hl) hns hx ?_) hd))
  refine wpAny_Name (wpAny_loadName_free hk (show scope.names.lookup y = some .free from hy) hc (cell hv) ?_ hn) hd2
  refine wpAny_in_heap (nroom hroom) ⟨NkS.is kk _ nk2, dep⟩ hsys dd2 ?_
  refine wpAny_truthy_bool ?_
  rw [fin]
  unfold inB
  rw [← e]
  cases hb : (valX ks kk).isSome with
  | false =>
    rw [if_neg (by decide)]
    exact ⟨rfl, GxR.keeps_tok _ _⟩
  | true =>
    rw [if_pos rfl]
    refine wpAny_Compare1 (wpAny_Name (wpAny_loadName_local hk (show scope.names.lookup x = some .local from hl) hns hx ?_) hd)
    refine wpAny_Name (wpAny_loadName_free hk (show scope.names.lookup z = some .free from hz) hc2 (cell hv2) ?_ hn3) hd3
    obtain ⟨as, r1⟩ := NkS.reads kk _ nk2
    obtain ⟨bs, r2⟩ := NkS.reads k0 _ (NkS.to sq k0 _ hw)
    refine compareNe_shaped r1 r2 shp hk0 hroom ⟨?_, GxR.keeps_tok _ _⟩
    rw [Bool.true_and]
theorem any_inX (ks : KsV) (k0 : NK) (mks : List NK) : (List.range mks.length).any (trB (inAt ks k0 mks) mks.length) = mks.any (inB ks k0) := by
  rw [Bool.eq_iff_iff, List.any_eq_true, List.any_eq_true]
  constructor
  · rintro ⟨i, hi, h⟩
    have hi' := List.mem_range.mp hi
    unfold trB inAt at h
    rw [decide_eq_true hi', Bool.true_and, List.getElem?_eq_getElem hi'] at h
    exact ⟨_, List.getElem_mem hi', h⟩
  · rintro ⟨ws, m, h⟩
    obtain ⟨i, hi, e⟩ := List.getElem_of_mem m
    refine ⟨i, List.mem_range.mpr hi, ?_⟩
    unfold trB inAt
    rw [decide_eq_true hi, Bool.true_and, List.getElem?_eq_getElem hi, e]
    exact h
/-- any(x in D and x != k for x in e): D at i, k at j -/
def tAnyIn [TabC] (K : PySem.W.Frag) (i j : Nat) (te : TE) : TE := fun σ H Q => te σ H fun v H1 => ∃ (l a b : Addr) (vs : List V) (mks : List NK) (k0 : NK) (ks : KsV), v = .ref l ∧ SqL K H1 l vs ∧ σ[i]? = some (some (.ref a)) ∧ σ[j]? = some (some (.ref b)) ∧
  H1 a = some (dTO TabC.wld a ks) ∧ (∀ z ∈ ks, z.1.depth ≤ 8 ∧ Dx K H1 (.ref z.2.1) z.1.data) ∧ vs.length = mks.length ∧ (∀ (n : Nat) (x : V), vs[n]? = some x → ∃ (k : NK) (m : Addr), mks[n]? = some k ∧ x = .ref m ∧ Dx K H1 x k.data) ∧ Dx K H1 (.ref b) k0.data ∧
  (∀ k ∈ mks, k.depth ≤ 8 ∧ shaped k.data = true) ∧ shaped k0.data = true ∧ TabsE H1 ∧ Q (.bl (mks.any (inB ks k0))) H1
theorem pe_anyInX [TabC] {c : Addr} {iter : Expr} {te : TE} {x y z : Str} {i j : Nat} {px p pos gpos p1 p2 p3 p4 p5 p6 p7 : Pos} {scope : Scope} {k : Nat} (hw : X.w = TabC.wld) (hT : (P, tabP P) ∈ TabC.exts) (hr : Room k X.A) (hg : Gl X "any") (hm : X.mg "any" = none) (TB : GxR.TabB X.base X.mg c P) (hcode : X.env.code = .ref c)
    (hi : PE X iter te) (hyN : X.N[i]? = some y) (hzN : X.N[j]? = some z)
    (s1 : scope.kind = .function) (s2 : scope.isCoroutine = false) (s3 : ∀ y ∈ scope.names, y.2 ≠ .cell) (s4 : scope.names.lookup (".0" : Str) = some NameKind.local) (s5 : scope.names.lookup x = some .local) (s6 : scope.names.lookup y = some .free) (s6z : scope.names.lookup z = some .free)
    (s7 : ∀ u ∈ scope.names, u.2 = .free → u.1 = y ∨ u.1 = z) (s8 : X.env.scope.names.lookup y = some .cell) (s9 : X.env.scope.names.lookup z = some .cell) (hs : ∀ v, genFold iter X.env v = pure v)
    (he : starEach [.GeneratorExp (.BoolOp .And [.Compare (.Name x p1) [.In] [.Name y p2] p3, .Compare (.Name x p4) [.NotEq] [.Name z p5] p6] p7) [⟨.Name x px, iter, [], 0⟩] scope gpos] X.env = (false, eval (.GeneratorExp (.BoolOp .And [.Compare (.Name x p1) [.In] [.Name y p2] p3, .Compare (.Name x p4) [.NotEq] [.Name z p5] p6] p7) [⟨.Name x px, iter, [], 0⟩] scope gpos) X.env) :: starEach [] X.env := by rfl)
    (hd : (x == ("__debug__" : Str)) = false := by decide) (hd2 : (y == ("__debug__" : Str)) = false := by decide) (hn : (y == ("__classdict__" : Str)) = false := by decide) (hd3 : (z == ("__debug__" : Str)) = false := by decide) (hn3 : (z == ("__classdict__" : Str)) = false := by decide) :
    PE X (.Call (.Name "any" p) [.GeneratorExp (.BoolOp .And [.Compare (.Name x p1) [.In] [.Name y p2] p3, .Compare (.Name x p4) [.NotEq] [.Name z p5] p6] p7) [⟨.Name x px, iter, [], 0⟩] scope gpos] [] pos) (tAnyIn X.K i j te) := by
  constructor
  intro pins s σ H Q I h
  unfold tAnyIn at h
  have hfree : ∀ u ∈ scope.names, u.2 = .free → X.env.scope.names.lookup u.1 = some .cell ∨ X.env.scope.names.lookup u.1 = some .free := fun u m e => by
    rcases s7 u m e with q | q
    · rw [q]; exact .inl s8
    · rw [q]; exact .inl s9
  have S : GxR.GenS X.env scope x := ⟨s1, s2, s3, s4, s5, fun u m e => (hfree u m e).elim (fun q => I.ok.has _ (.inl q)) fun q => I.ok.has _ (.inr q)⟩
  have hmem : (y, NameKind.free) ∈ scope.names := PySem.mem_of_lookup s6
  have hmem2 : (z, NameKind.free) ∈ scope.names := PySem.mem_of_lookup s6z
  refine wpAny_Call_Name_kw (ld_blt I hg hm (by decide +kernel : bootBuiltins "any" = some (.builtin "any")) ?_)
  refine PyProof.Rows.callWith_builtin1 ?_ he (by rfl)
  rw [he]
  show wpAny _ _ (spliced ((false, eval (.GeneratorExp (.BoolOp .And [.Compare (.Name x p1) [.In] [.Name y p2] p3, .Compare (.Name x p4) [.NotEq] [.Name z p5] p6] p7) [⟨.Name x px, iter, [], 0⟩] scope gpos) X.env) :: backTo pos (starEach [] X.env))) _ _ s
  refine Calls.spliced_cons (gen_make (σ := σ) (pins := pins) hr TB hcode S hs (thn (hi.run pins s σ H _ I h) fun xv s1 ⟨v, H1, I1, r1, q1⟩ => ?_))
  obtain ⟨l, a, b, vs, mks, k0, ks, rfl, hq, ei, ej, hat, hall, hlen, hit, hk0, hms, hk0s, ht, q⟩ := q1
  cases r1
  have hP := ht (P, tabP P) hT
  obtain ⟨its, rv, pl, _⟩ := I1.list hq
  have C := cells_of I1 (Caps.made (fr := [y, z]) (js := [i, j]) I1.ok hfree (fun u m => by
    rcases List.mem_cons.mp m with e | e
    · rw [e]; exact hmem
    · rw [List.mem_singleton.mp e]; exact hmem2) (by simp [hyN, hzN]))
  obtain ⟨c', hc', hv'⟩ := C.has 0 y rfl
  obtain ⟨u, ru, hcell⟩ := hv' (.ref a) (by simp [NdefX.slotAt, ei])
  cases ru
  obtain ⟨c2', hc2', hv2'⟩ := C.has 1 z rfl
  obtain ⟨u, ru, hcell2⟩ := hv2' (.ref b) (by simp [NdefX.slotAt, ej])
  cases ru
  have tst := test_inX (p1 := p1) (p2 := p2) (p3 := p3) (p4 := p4) (p5 := p5) (p6 := p6) (p7 := p7) (us := its) (mks := mks) hr I1 hP S.kind S.loc s6 s6z hc' hcell hc2' hcell2 (nkS_of I1 k0 _ _ hk0 rfl) (by rw [hw]; exact hat) hall hms hk0s hd hd2 hn hd3 hn3
  have hl := rv.length
  refine ⟨H1, [l], its.toArray.size, _, inAt ks k0 mks, I1, hP, iter_list pl.isList, fun b m => ?_, tst.mono fun n v e => ?_, fun g s5 hG => ?_⟩
  · rw [List.mem_singleton.mp m]
    obtain ⟨⟨ps, e1, _⟩, _, _⟩ := (show ObjOk X.prog X.w H1 s1.heap P (.ext (tabP P)) from I1.hok P _ hP)
    obtain ⟨o, ho, hc2, _⟩ := pl.isList
    refine ⟨fun z => ?_, Heap.lt_size ho⟩
    rw [z, e1] at ho
    cases ho
    cases hc2
  · have e' : its[n]? = some v := by simpa using e
    refine ⟨e', ?_⟩
    have hn' : n < vs.length := by rw [hl]; exact (List.getElem?_eq_some_iff.mp e').1
    obtain ⟨kk, m, hk1, ex, hk2⟩ := hit n _ (List.getElem?_eq_getElem hn')
    obtain ⟨u, hu, ru⟩ := rv.get (List.getElem?_eq_getElem hn')
    rw [e'] at hu
    cases hu
    have nk := nkS_of I1 kk _ _ hk2 ru
    rw [ex] at ru
    cases ru
    exact ⟨kk, m, hk1, rfl, nk⟩
  · obtain ⟨fp, wr, G, F, St, W, hst, htr, hI⟩ := hG
    refine Calls.spliced_nil ?_
    refine call_any_walkS (W.self 0 _ _ _ hst ⟨g, fp, wr, G, _, F, St, _, rfl, W, hst, htr, fun s' mv => ⟨.bl _, H1, hI s' mv, rfl, ?_⟩⟩)
    have e3 : its.toArray.size = mks.length := by rw [List.size_toArray, ← hl, hlen]
    rw [e3, any_inX]
    exact q
section
variable [TabC]
def tksD : List D → Option (List NK)
  | [] => some []
  | d :: ds => (tkD d).bind fun k => (tksD ds).map fun ks => k :: ks
theorem tksD_at : ∀ {ds : List D} {ks : List NK}, tksD ds = some ks → ks.length = ds.length ∧ ∀ (n : Nat) (d : D), ds[n]? = some d → ∃ k, ks[n]? = some k ∧ tkD d = some k
  | [], ks, h => by cases h; exact ⟨rfl, fun n d e => by simp at e⟩
  | d :: ds, ks, h => by
    unfold tksD at h
    obtain ⟨k, h1, h⟩ := Option.bind_eq_some_iff.mp h
    obtain ⟨ks', h2, rfl⟩ := Option.map_eq_some_iff.mp h
    obtain ⟨l, q⟩ := tksD_at h2
    refine ⟨by simp [l], fun n e he => ?_⟩
    cases n with
    | zero =>
      have he : d = e := Option.some.inj (by simpa using he)
      subst he
      exact ⟨k, rfl, h1⟩
    | succ n => exact q n e (by simpa using he)
/-- any(x in D and x != k for x in f(k)) -/
def hasD (f : List D → Option RetV) (kvs : List (NK × D)) (d : D) : Option Bool := (f [d]).bind fun r => match r with
  | .new (.lst ms) => (tksD ms).bind fun mks => (tkD d).bind fun k0 => if shaped d = true ∧ (∀ m ∈ ms, shaped m = true) then some (mks.any fun k => (valT kvs k).isSome && !PyData.eqv k.data k0.data) else none
  | _ => none
def spHF (F : List (NK × D) → D → Option Bool) (K : PySem.W.Frag) : Sp := fun vs H Q _ => ∃ G a u ks kvs d b, vs = [.ref a, u] ∧ SameT G H ∧ H a = some (dTO TabC.wld a ks) ∧ KDT K G ks kvs ∧ Dx K G u d ∧ F kvs d = some b ∧
  ∀ F' H', Sim ⟨K, [], noW, G, H⟩ F' H' [] [] → Q (.bl b) H'
theorem kdt_inB {K : PySem.W.Frag} {F : Hp} {ks : KsV} {kvs : List (NK × D)} (h : KDT K F ks kvs) (k0 k : NK) : inB ks k0 k = ((valT kvs k).isSome && !PyData.eqv k.data k0.data) := by
  unfold inB
  rcases kdt_val k h with ⟨z1, z2⟩ | ⟨v', d', z1, z2, _⟩ <;> rw [z1, z2] <;> rfl
theorem body_HF {f : List D → Option RetV} {K : PySem.W.Frag} {vs : List V} {H : Hp} {Q : VK} {E : XK} {N : List Str} {D : Ends} (hN : N.length = 2) (hD : D.rt = Q) (h : spHF (hasD f) K vs H Q E) :
    tRet (tAnyIn K 0 1 (tCall (spD (fun ds r => f ds = some r) K) [] E0 (tCons (tVar 1) tNil))) D (L2.start N vs) H := by
  obtain ⟨G, a, u, ks, kvs, d, b, rfl, sT, ha, hk, hu, hf, q⟩ := h
  unfold hasD at hf
  obtain ⟨r, hr, hf⟩ := Option.bind_eq_some_iff.mp hf
  split at hf
  case h_2 => cases hf
  rename_i ms
  obtain ⟨mks, hm, hf⟩ := Option.bind_eq_some_iff.mp hf
  obtain ⟨k0, h0, hf⟩ := Option.bind_eq_some_iff.mp hf
  split at hf
  case isFalse => cases hf
  rename_i hsh
  cases hf
  have st : L2.start N [.ref a, u] = [some (.ref a), some u] := by
    unfold L2.start
    simp [hN]
  rw [st]
  obtain ⟨d1, d2, d3⟩ := tkD_eq h0
  subst d1
  obtain ⟨bb, rfl⟩ := dx_ref hu d3
  refine ⟨_, rfl, G, [_], _, sT, .cons hu .nil, hr, fun v F' H' t rk => ?_⟩
  obtain ⟨l, fp, rfl, ⟨rfl, ws, hl, hws⟩, _⟩ := rk
  obtain ⟨e, dd⟩ := tksD_at hm
  have hat : H' a = some (dTO TabC.wld a ks) := by
    obtain ⟨fp', t⟩ := id t
    exact t.keep a _ ha id fun ⟨p, m, z⟩ => by
      obtain ⟨ps, h1, _⟩ := sT.2.2.1 p m
      rw [z, ha] at h1
      cases h1
  have sf : Same G F' := t.f0
  have fh : Same F' H' := t.fh
  refine ⟨l, a, bb, ws, mks, k0, ks, rfl, .inl (.inl hl), rfl, rfl, hat, KDT.all (sf.trans fh) hk, ?_, fun n x hx => ?_, dpUp (sf.trans fh) hu, fun k mk => ?_, hsh.1, t.tabs, ?_⟩
  · rw [e]; exact dpAllLen hws
  · obtain ⟨dn, hdn, xn⟩ := dpAllGetV hws hx
    obtain ⟨k, hk1, hk2⟩ := dd n dn hdn
    obtain ⟨w1, w2, w3⟩ := tkD_eq hk2
    subst w1
    obtain ⟨m, rfl⟩ := dx_ref xn w3
    exact ⟨k, m, hk1, rfl, dpUp fh xn⟩
  · obtain ⟨n, hn, ek⟩ := List.getElem_of_mem mk
    have hn' : n < ms.length := by rw [← e]; exact hn
    obtain ⟨k', hk1, hk2⟩ := dd n _ (List.getElem?_eq_getElem hn')
    rw [List.getElem?_eq_getElem hn, ek] at hk1
    cases hk1
    obtain ⟨w1, w2, w3⟩ := tkD_eq hk2
    exact ⟨w2, by rw [← w1]; exact hsh.2 _ (List.getElem_mem hn')⟩
  · rw [hD]
    have : mks.any (inB ks k0) = mks.any fun k => (valT kvs k).isSome && !PyData.eqv k.data k0.data := by
      congr 1
      funext k
      exact kdt_inB hk k0 k
    rw [this]
    exact q F' H' t
section
variable {g : Gm} {ta : TE} {ρ ρ1 : Rho} {i : Nat} {d : D} {kvs kvs0 : List (NK × D)} {b : Bool} {F : List (NK × D) → D → Option Bool} {E : XK}
theorem ed_hasX (h0 : ρ[i]? = some (.own (.dT kvs0))) (ha : EvD g ta ρ d ρ1) (h1 : ρ1[i]? = some (.own (.dT kvs))) (hF : F kvs d = some b) : EvD g (tCall (spHF F g.K) [] E (tCons (tVar i) (tCons ta tNil))) ρ (.bool b) ρ1 := fun c G H σ k s Q q => by
  obtain ⟨a, xs, f1, _, _, _⟩ := s.dtAt h0
  refine ⟨_, f1, ha c G H σ k s _ fun v F1 H1 s1 e1 x => ?_⟩
  obtain ⟨a', ks, g1, g2, g3, _⟩ := s1.dtAt h1
  have kk : c.K = g.K := k.1
  have := some_inj2 f1 g1
  subst this
  obtain ⟨fp, sf⟩ := id s1
  rw [← kk]
  refine ⟨F1, a, v, ks, kvs, d, b, rfl, s1.ft, g2, g3, x, hF, fun F' H' t => ?_⟩
  exact q _ F' H' ⟨fp, sf.after t⟩ (e1.trans t.f0) (.bl b)
end
def rLstT (w : World) : List V → Hp → VK → Prop := fun xs H Q => ∃ a ks, xs = [.ref a] ∧ H a = some (dTO w a ks) ∧ ∀ p, H p = none → Q (.ref p) (upd H p (.lst (ks.map fun z => .ref z.2.1)))
theorem vals_keys : ∀ {ks : KsV} {zs : List (NK × Addr × Value)}, Paired RelZ ks zs → Vals (ks.map fun z => V.ref z.2.1) (zs.map fun z => Value.ref z.2.1)
  | _, _, .nil => .nil
  | _, _, .cons (a := p) (b := q) r t => .cons (show Value.ref q.2.1 = Value.ref p.2.1 by rw [r.2.1]) (vals_keys t)
theorem cr_lstT {X : Cx} {w : World} (hw : X.w = w) (hc : X.calm = true) : CallR X (.type "list") (rLstT w) := fun pins s σ H xs us Q I r h => by
  obtain ⟨d, ks, rfl, hd, q⟩ := h
  obtain ⟨u, rfl, rx⟩ := r.one
  cases rx
  rw [← hw] at hd
  obtain ⟨⟨h1, h2, zs, o, es, ep, h3, h4, h5, h6, h7, h8⟩, _⟩ := (show ObjOk X.prog X.w H s.heap d (.ext (dTok X.w d ks)) from I.hok d _ hd)
  have l1 : es.size = zs.length := by
    have := congrArg List.length h7
    simpa using this
  have l2 : ks.length = zs.length := Paired.length h3
  refine PySem.W.kdl_call (kdl_raw h1 h5 h6) (I.ok.hd hc) h4 (by omega) fun h' tk acc' c' kp e it => ?_
  have ea : acc'.toList = zs.map fun x => Value.ref x.2.1 := by
    have hl : acc'.toList.length = zs.length := by rw [Array.length_toList, it.1]; exact l1
    apply List.ext_getElem?
    intro j
    rw [List.getElem?_map]
    cases hj : acc'.toList[j]? with
    | none =>
      have h1 := List.getElem?_eq_none_iff.mp hj
      rw [List.getElem?_eq_none (by omega)]
      all_goals rfl
    | some v =>
      obtain ⟨en, hen, hv⟩ := it.2 j v (by rw [← Array.getElem?_toList]; exact hj)
      have qe : es[j]? = (zs[j]?).map (dEnt X.w) := by rw [← Array.getElem?_toList, h7, List.getElem?_map]
      rw [hen] at qe
      cases hb : zs[j]? with
      | none =>
        rw [hb] at qe
        exact nomatch (show some en = none from qe)
      | some b =>
        rw [hb] at qe
        have e2 : en = dEnt X.w b := Option.some.inj qe
        rw [hv, e2]
        all_goals rfl
  have rv : Vals (ks.map fun x => V.ref x.2.1) acc'.toList := by rw [ea]; exact vals_keys h3
  have hz : (ks.map fun x => V.ref x.2.1).length ≤ sizeLine := by rw [List.length_map]; exact h2
  refine ⟨.ref s.heap.objs.size, _, I.laid (t' := tk) (o := .lst (ks.map fun x => V.ref x.2.1)) kp (Nat.le_refl _) ?_, rfl, q _ (I.hok.fresh (Nat.le_refl _))⟩
  exact ⟨hz, acc'.toList, c', rv, by rw [Array.toArray_toList]; exact e⟩
theorem kdt_keysD {K : PySem.W.Frag} {F : Hp} : ∀ {ks : KsV} {kvs : List (NK × D)}, KDT K F ks kvs → AllD (Dx K F) (ks.map fun z => .ref z.2.1) (kvs.map fun z => z.1.data)
  | _, _, .nil => .nil
  | _, _, .cons r t => .cons (by have h := r.2.2.1; rw [r.1] at h; exact h) (kdt_keysD t)
def isTupC : D → Bool
  | .tuple (_ :: _) => true
  | _ => false
def srtOk (ds : List D) : Bool := ds.all (fun d => ds.all (PySem.W.alike d)) && ds.all isTupC && ds.all (fun d => decide (d.depth ≤ 62) && !d.hasDict)
theorem srtOk_eq {ds : List D} (h : srtOk ds = true) : PySem.W.AllAlike ds ∧ PySem.W.Sortable ds ∧ (∀ d ∈ ds, d.depth ≤ 62) ∧ ∀ d ∈ ds, d.hasDict = false := by
  unfold srtOk at h
  simp only [Bool.and_eq_true, List.all_eq_true, Bool.not_eq_true', decide_eq_true_eq] at h
  obtain ⟨⟨h1, h2⟩, h3⟩ := h
  refine ⟨fun d m d' m' => h1 d m d' m', .inl fun d m => ?_, fun d m => (h3 d m).1, fun d m => (h3 d m).2⟩
  have := h2 d m
  unfold isTupC at this
  split at this
  · exact ⟨_, _, rfl⟩
  · cases this
/-- sorted(list(D)) -/
def tSrK (K : PySem.W.Frag) (i : Nat) : TE := tCB (rSrtD K) (tCons (tCB (rLstT TabC.wld) (tCons (tVar i) tNil)) tNil)
theorem en_srK {g : Gm} {ρ : Rho} {i : Nat} {kvs : List (NK × D)} (h : ρ[i]? = some (.own (.dT kvs))) (ok : srtOk (kvs.map fun z => z.1.data) = true) : EvN g (tSrK g.K i) ρ (sortedD (kvs.map fun z => z.1.data)) ρ := fun c F H σ k s Q q => by
  obtain ⟨a, ks, f1, f2, f3, _⟩ := s.dtAt h
  obtain ⟨o1, o2, o3, o4⟩ := srtOk_eq ok
  have kk : c.K = g.K := k.1
  refine ⟨_, f1, a, ks, rfl, f2, fun p hp => ?_⟩
  have s2 := s.heap (o := .lst (ks.map fun z => .ref z.2.1)) hp
  rw [← kk]
  refine ⟨p, ks.map (fun z => .ref z.2.1), kvs.map (fun z => z.1.data), Dx c.K F, rfl, .inl (.inl upd_same), fun v d m x => (dpUp s2.fh x).old (o4 d m), kdt_keysD f3, o1, o2, o3, fun ys p2 hy hp2 => ?_⟩
  exact q p2 ys F _ s2 (Same.refl _) hp2 (ofAllD hy)
end
end DL
namespace DL
open PySem PySem.Spec PyProof.Rows L2
mutual
/-- no text within -/
def noTx : NK → Bool
  | .none => true
  | .num _ => true
  | .text _ => false
  | .tup ks => noTxs ks
def noTxs : List NK → Bool
  | [] => true
  | k :: ks => noTx k && noTxs ks
end
section
variable {P : Program} {w : World}
/-- the member's tuple at b -/
structure KN (h : Heap) (k : NK) (b : Addr) : Prop where
  nk : NestedIs h k (.ref b)
  dp : k.depth ≤ 8
  tx : noTx k = true
theorem KN.to {h h' : Heap} {k : NK} {b : Addr} (z : KN h k b) (f : ∀ c o vs n, h.get? c = some o → o.data = .seq vs n → h'.get? c = some o) : KN h' k b := ⟨NestedIs.at f _ _ z.nk, z.dp, z.tx⟩
theorem KN.keep {h h' : Heap} {k : NK} {b : Addr} (z : KN h k b) (f : ∀ c o, h.get? c = some o → h'.get? c = some o) : KN h' k b := z.to fun c o _ _ e _ => f c o e
/-- the set's own object may change -/
theorem KN.but {h h' : Heap} {k : NK} {a b : Addr} {o : Obj} {es : Array (Int × Value)} {ep : Nat} {t : SetTable} (z : KN h k b) (e : h.get? a = some o) (d : o.data = .set es ep t) (f : Heap.SameBut a h h') : KN h' k b :=
  z.to fun c u vs n ec dc => by
    refine (f.2 c fun q => ?_).trans ec
    subst q
    rw [e] at ec
    cases ec
    rw [d] at dc
    cases dc
/-- told by value -/
def ByVal (P : Program) (w : World) (n : Nat) (s : Shared) (v : Value) : Prop := ∀ (A : Around) (E : Value → Shared → Prop) (Q : Bool → Shared → Prop), Q true s → wpAny (model P w) A (hashByValue n v) Q E s
def NoCls (P : Program) (w : World) (n : Nat) (s : Shared) (v : Value) : Prop := ∀ (A : Around) (E : Value → Shared → Prop) (Q : Bool → Shared → Prop), Q false s → wpAny (model P w) A (ofAClassStatement n v) Q E s
theorem byVal_tup {s : Shared} {a : Addr} {o : Obj} {vs : Array Value} {c m : Nat} (e : s.heap.get? a = some o) (k : o.cls = .type "tuple") (d : o.data = .seq vs c) (all : ∀ v ∈ vs.toList, ByVal P w m s v) : ByVal P w (m + 1) s (.ref a) := fun A E Q q => by
  have ty : s.TypeIs (.ref a) "tuple" := ⟨o, e, k⟩
  unfold hashByValue
  refine wpAny_bind (wpAny_specialOf ty F.slot_tuple_hash.lookup ?_)
  show wpAny _ _ (seqItems? (.ref a) >>= _) _ _ s
  refine wpAny_bind (wpAny_seqItems e d ?_)
  refine wpAny_bind ?_
  show wpAny _ _ (forIn vs _ _) _ _ s
  rw [← Array.forIn_toList]
  refine wpAny_forIn_list _ (fun left r s1 => r.1 = none ∧ s1 = s ∧ ∀ v ∈ left, ByVal P w m s v) _ ?_ ?_ _ _ ⟨rfl, rfl, all⟩
  · rintro v left r s1 ⟨h1, rfl, h2⟩
    refine wpAny_bind (h2 v List.mem_cons_self _ _ _ ?_)
    simp only [Bool.not_true, Bool.false_eq_true, if_false]
    exact wpAny_pure ⟨rfl, rfl, fun u m => h2 u (List.mem_cons_of_mem _ m)⟩
  · rintro ⟨r1, r2⟩ s1 ⟨h1, rfl, _⟩
    simp only at h1
    subst h1
    exact wpAny_pure q
theorem noCls_tup {s : Shared} {a : Addr} {o : Obj} {vs : Array Value} {c m : Nat} (e : s.heap.get? a = some o) (k : o.cls = .type "tuple") (d : o.data = .seq vs c) (all : ∀ v ∈ vs.toList, NoCls P w m s v) : NoCls P w (m + 1) s (.ref a) := fun A E Q q => by
  have ty : s.TypeIs (.ref a) "tuple" := ⟨o, e, k⟩
  have z : (("tuple" : String) == "tuple") = true := by decide
  unfold ofAClassStatement
  refine wpAny_bind (wpAny_typeOf ty ?_)
  dsimp only
  simp only [z, if_true, Bool.not_true, Bool.false_eq_true, if_false]
  try refine wpAny_bind (wpAny_pure ?_)
  try simp only [Bool.not_true, Bool.false_eq_true, if_false]
  show wpAny _ _ (seqItems? (.ref a) >>= _) _ _ s
  refine wpAny_bind (wpAny_seqItems e d ?_)
  dsimp only
  refine wpAny_bind ?_
  show wpAny _ _ (forIn vs _ _) _ _ s
  rw [← Array.forIn_toList]
  refine wpAny_forIn_list _ (fun left r s1 => r.1 = none ∧ s1 = s ∧ ∀ v ∈ left, NoCls P w m s v) _ ?_ ?_ _ _ ⟨rfl, rfl, all⟩
  · rintro v left r s1 ⟨h1, rfl, h2⟩
    refine wpAny_bind (h2 v List.mem_cons_self _ _ _ ?_)
    simp only [Bool.false_eq_true, if_false]
    exact wpAny_pure ⟨rfl, rfl, fun u m => h2 u (List.mem_cons_of_mem _ m)⟩
  · rintro ⟨r1, r2⟩ s1 ⟨h1, rfl, _⟩
    simp only at h1
    subst h1
    exact wpAny_pure q
mutual
theorem byVal_key : ∀ (k : NK) (v : Value) (n : Nat) (s : Shared), NestedIs s.heap k v → k.depth ≤ n → noTx k = true → ByVal P w n s v
  | .none, _, n, s, x, _, _ => by cases x; intro A E Q q; cases n <;> exact wpAny_pure q
  | .num i, _, n, s, x, _, _ => by cases x <;> intro A E Q q <;> cases n <;> exact wpAny_pure q
  | .text y, _, n, s, x, _, z => by cases z
  | .tup ks, _, n, s, x, hn, z => by
    cases x with
    | tup e c d a =>
      simp only [NestedKey.depth] at hn
      cases n with
      | zero => omega
      | succ n => exact byVal_tup e c d (byVal_keys ks _ n s a (by omega) z)
theorem byVal_keys : ∀ (ks : List NK) (vs : List Value) (n : Nat) (s : Shared), NestedAll s.heap ks vs → NestedKey.depthAll ks ≤ n → noTxs ks = true → ∀ v ∈ vs, ByVal P w n s v
  | [], _, n, s, x, _, _, v, m => by cases x; cases m
  | k :: ks, _, n, s, x, hn, z, v, m => by
    cases x with
    | cons x1 x2 =>
      simp only [NestedKey.depthAll] at hn
      unfold noTxs at z
      rw [Bool.and_eq_true] at z
      rcases List.mem_cons.mp m with e | m
      · rw [e]; exact byVal_key k _ n s x1 (by omega) z.1
      · exact byVal_keys ks _ n s x2 (by omega) z.2 v m
end
mutual
theorem noCls_key : ∀ (k : NK) (v : Value) (n : Nat) (s : Shared), NestedIs s.heap k v → k.depth ≤ n → NoCls P w n s v
  | .none, _, n, s, x, _ => by cases x; intro A E Q q; cases n <;> exact wpAny_pure q
  | .num i, _, n, s, x, _ => by cases x <;> intro A E Q q <;> cases n <;> exact wpAny_pure q
  | .text y, _, n, s, x, _ => by cases x; intro A E Q q; cases n <;> exact wpAny_pure q
  | .tup ks, _, n, s, x, hn => by
    cases x with
    | tup e c d a =>
      simp only [NestedKey.depth] at hn
      cases n with
      | zero => omega
      | succ n => exact noCls_tup e c d (noCls_keys ks _ n s a (by omega))
theorem noCls_keys : ∀ (ks : List NK) (vs : List Value) (n : Nat) (s : Shared), NestedAll s.heap ks vs → NestedKey.depthAll ks ≤ n → ∀ v ∈ vs, NoCls P w n s v
  | [], _, n, s, x, _, v, m => by cases x; cases m
  | k :: ks, _, n, s, x, hn, v, m => by
    cases x with
    | cons x1 x2 =>
      simp only [NestedKey.depthAll] at hn
      rcases List.mem_cons.mp m with e | m
      · rw [e]; exact noCls_key k _ n s x1 (by omega)
      · exact noCls_keys ks _ n s x2 (by omega) v m
end
variable {A : Around} {E : Value → Shared → Prop} {s : Shared}
/-- a look among the members shows nothing -/
theorem kn_unseen {k : NK} {b : Addr} {Q : Bool → Shared → Prop} (z : KN s.heap k b) {ys : List Value} (hy : ∀ y ∈ ys, ∃ k1 c, y = Value.ref c ∧ KN s.heap k1 c) (q : Q false s) : wpAny (model P w) A (searchCouldBeSeen (.ref b) ys) Q E s := by
  unfold searchCouldBeSeen
  refine wpAny_bind ?_
  refine wpAny_forIn_list _ (fun left r s1 => r.1 = none ∧ s1 = s ∧ ∀ y ∈ left, ∃ k1 c, y = Value.ref c ∧ KN s.heap k1 c) _ ?_ ?_ _ _ ⟨rfl, rfl, hy⟩
  · rintro v left r s1 ⟨h1, rfl, h2⟩
    obtain ⟨k1, c, rfl, z1⟩ := h2 v List.mem_cons_self
    have more : ∀ y ∈ left, ∃ k1 c, y = Value.ref c ∧ KN s1.heap k1 c := fun u m => h2 u (List.mem_cons_of_mem _ m)
    dsimp only
    by_cases same : (b == c || (carriedByValue (.ref b) && carriedByValue (.ref c))) = true
    · exact wp_if_pos same (wpAny_pure ⟨rfl, rfl, more⟩)
    · refine wp_if_neg same ?_
      refine wpAny_bind ((nestedKind P w).quiet ⟨z.nk, z.dp⟩ ?_)
      simp only [Bool.not_true, Bool.false_eq_true, if_false]
      refine wpAny_bind ((nestedKind P w).quiet ⟨z1.nk, z1.dp⟩ ?_)
      simp only [Bool.not_true, Bool.false_eq_true, if_false]
      refine wpAny_bind (noCls_key k _ 8 _ z.nk z.dp _ _ _ ?_)
      simp only [Bool.false_eq_true, if_false]
      refine wpAny_bind (noCls_key k1 _ 8 _ z1.nk z1.dp _ _ _ ?_)
      simp only [Bool.false_eq_true, if_false]
      exact wpAny_pure ⟨rfl, rfl, more⟩
  · rintro ⟨r1, r2⟩ s1 ⟨h1, rfl, _⟩
    simp only at h1
    subst h1
    exact wpAny_pure q
def hsN (w : World) (z : NK × Addr) : Int := z.1.hash w
def rwN (w : World) (L : List (NK × Addr)) : List (Int × Value) := L.map fun z => (hsN w z, Value.ref z.2)
theorem rwN_len (L : List (NK × Addr)) : (rwN w L).length = L.length := List.length_map _
theorem rwN_at {L : List (NK × Addr)} {i : Nat} {z : NK × Addr} (e : L[i]? = some z) : (rwN w L)[i]? = some (hsN w z, Value.ref z.2) := by
  unfold rwN
  rw [List.getElem?_map, e]
  rfl
/-- the set at a, its members as they lie -/
structure SetN (P : Program) (w : World) (h : Heap) (a : Addr) (es : Array (Int × Value)) (ep : Nat) (t : SetTable) (L : List (NK × Addr)) : Prop where
  obj : ∃ o, h.get? a = some o ∧ o.ExactSet ∧ o.data = .set es ep t
  rw_ : es.toList = rwN w L
  tb : TabOk t (L.map (hsN w))
  nd : (L.map (·.1)).Nodup
  mem : ∀ z ∈ L, KN h z.1 z.2
  pl : t.plain = true
  ld : w.params.followText "set-order" = true ∨ t.led = true
  rm : L.length * 5 < t.mask * 3
  fw : L.length < 64
variable {a : Addr} {es : Array (Int × Value)} {ep : Nat} {t : SetTable} {L : List (NK × Addr)}
theorem SetN.sz (Z : SetN P w s.heap a es ep t L) : es.size = L.length := by
  rw [← Array.length_toList, Z.rw_, rwN_len]
theorem SetN.at_ (Z : SetN P w s.heap a es ep t L) {i : Nat} {z : NK × Addr} (e : L[i]? = some z) : es[i]? = some (hsN w z, Value.ref z.2) := by
  rw [← Array.getElem?_toList, Z.rw_]
  exact rwN_at e
theorem SetN.plc (Z : SetN P w s.heap a es ep t L) : t.place.size = L.length := by
  have := Z.tb.sz
  rwa [List.length_map] at this
theorem SetN.fit (Z : SetN P w s.heap a es ep t L) : t.fits es.size = true := by
  have h1 := Z.plc
  have h2 := Z.sz
  have h3 := Z.rm
  unfold SetTable.fits SetTable.fill
  rw [Z.tb.dm, Bool.and_eq_true, beq_iff_eq, decide_eq_true_eq]
  show t.place.size = es.size ∧ t.place.size + 0 ≤ t.mask
  omega
theorem SetN.stays (Z : SetN P w s.heap a es ep t L) : ¬ t.gaveWay = true := by
  unfold SetTable.gaveWay
  rw [mask_odd Z.tb.mok]
  decide
abbrev pr0 (t : SetTable) (g : Int) : SetTable.Probe := runAt t.mask (SetTable.bits g % (t.mask + 1)) (SetTable.bits g)
theorem pr0_dummy (m : Nat) : ∀ (n : Nat) (p : SetTable.Probe), p.dummy = none → (nth m p n).dummy = none
  | 0, _, e => e
  | n + 1, p, e => pr0_dummy m n (adv m p) (by unfold adv; split <;> exact e)
/-- the look for a key, from the c-th step on -/
theorem sn_look (Z : SetN P w s.heap a es ep t L) {x : Addr} {k : NK} {g : Int} (eg : k.hash w = g) (kx : KN s.heap k x) (hu : A.units + 8 < cLine) {K : Nat} (k1 : K < 10 * SetTable.turns t.mask) (k2 : way t.mask g K ∉ t.place.toList) (k3 : ∀ c, c < K → way t.mask g c ∈ t.place.toList)
    {Q : SetFound → Shared → Prop} (yes : k ∈ L.map (·.1) → Q (.there none) s) (no : k ∉ L.map (·.1) → Q (.free (way t.mask g K) false) s) :
    ∀ (f c : Nat) (st : Option SetTable.Probe), st.getD (t.probeStart g) = nth t.mask (pr0 t g) c → c ≤ K → K - c < f → (∀ (i : Nat) z, L[i]? = some z → z.1 = k → ∃ d, c ≤ d ∧ d < K ∧ t.place.toList[i]? = some (way t.mask g d)) →
      wpAny (model P w) A (setSearchFrom a (.ref x) g true f st) Q E s
  | 0, c, st, _, _, hf, _ => absurd hf (Nat.not_lt_zero _)
  | f + 1, c, st, es0, cK, hf, left => by
    obtain ⟨o, o1, o2, o3⟩ := Z.obj
    rw [setSearchFrom_succ]
    refine wpAny_bind (wpAny_setState_of o1 o3 Z.fit ?_)
    dsimp only
    refine wp_if_neg Z.stays ?_
    try refine wpAny_bind (wpAny_pure ?_)
    have step : ∀ q, nth t.mask (nth t.mask (pr0 t g) c) q = nth t.mask (pr0 t g) (c + q) := fun q => (nth_add t.mask c _ q).symm
    have place : ∀ q, (nth t.mask (nth t.mask (pr0 t g) c) q).j = way t.mask g (c + q) := fun q => congrArg SetTable.Probe.j (step q)
    have cKK : c + (K - c) = K := by omega
    have told := go_spec t Z.tb.ris Z.tb.dm (fun i => (es[i]?.map (·.1)).getD 0) g (10 * SetTable.turns t.mask) (K - c) _ (pr0_dummy t.mask c _ rfl) (by omega) (fun q hq => by rw [place]; exact k3 (c + q) (by omega)) (by rw [place, cKK]; exact k2)
    have hashes : ∀ (i : Nat) z, L[i]? = some z → (es[i]?.map (·.1)).getD 0 = hsN w z := fun i z e => by rw [Z.at_ e]; rfl
    rcases told with ⟨q, i, hq, hi, hh, skip, pr⟩ | ⟨skip, pr⟩
    · have pr' : t.probe (fun i => (es[i]?.map (·.1)).getD 0) g (st.getD (t.probeStart g)) = some (.candidate (way t.mask g (c + q)) i (nth t.mask (pr0 t g) (c + (q + 1)))) := by
        rw [es0, ← place, ← step]
        exact pr
      rw [pr']
      dsimp only
      rw [place] at hi
      have iL : i < L.length := by
        have h1 : i < t.place.toList.length := (List.getElem?_eq_some_iff.mp hi).1
        rw [Array.length_toList, Z.plc] at h1
        exact h1
      obtain ⟨z, ez⟩ : ∃ z, L[i]? = some z := ⟨_, List.getElem?_eq_getElem iL⟩
      have mz := List.mem_of_getElem? ez
      have kz := Z.mem z mz
      have live : t.slot (way t.mask g (c + q)) = .live i := slot_live Z.tb.ris hi
      have on : wpAny (model P w) A (searchRest a (.ref x) g true f es t (way t.mask g (c + q)) i (nth t.mask (pr0 t g) (c + (q + 1)))) Q E s := by
        unfold searchRest
        rw [Z.at_ ez]
        dsimp only
        refine wpAny_bind (wpAny_holding ((nestedKind P w).eqBool hu ⟨kz.nk, kz.dp⟩ ⟨kx.nk, kx.dp⟩ ?_))
        refine wpAny_bind (wpAny_setState_of o1 o3 Z.fit ?_)
        dsimp only
        by_cases eq : z.1 = k
        · exact wp_if_pos (by simp [eq]) (wpAny_pure (yes (List.mem_map.mpr ⟨z, mz, eq⟩)))
        · refine wp_if_neg (by simp [eq]) ?_
          try refine wpAny_bind (wpAny_pure ?_)
          rw [sameMem]
          dsimp only
          simp only [if_true, live, Z.at_ ez]
          refine wpAny_bind (wpAny_isSame_ref_self (wpAny_bind (wpAny_pure ?_)))
          simp only [if_true]
          refine wp_if_neg (by simp [eq]) ?_
          refine sn_look Z eg kx hu k1 k2 k3 yes no f (c + (q + 1)) _ rfl (by omega) (by omega) fun j y ey ky => ?_
          obtain ⟨d, d1, d2, d3⟩ := left j y ey ky
          refine ⟨d, ?_, d2, d3⟩
          apply Classical.byContradiction
          intro lt
          have gy : hsN w y = g := by rw [← eg, ← ky]; rfl
          by_cases dc : d = c + q
          · rw [dc] at d3
            have live2 := slot_live Z.tb.ris d3
            rw [live] at live2
            injection live2 with ij
            rw [← ij, ez] at ey
            cases ey
            exact eq ky
          · exact skip (d - c) j (by omega) (by rw [place, show c + (d - c) = d by omega]; exact d3) ((hashes j y ey).trans gy)
      by_cases hl : t.led = true
      · refine wp_if_neg (by simp [hl]) ?_
        try refine wpAny_bind (wpAny_pure ?_)
        exact on
      · refine wp_if_pos (by simp [hl]) ?_
        refine wpAny_bind (kn_unseen kx (fun y hy => ?_) ?_)
        · obtain ⟨e, he, ee⟩ := List.mem_map.mp hy
          have in_ : e ∈ es.toList := by
            have : e ∈ es ∧ e.1 = g := by simpa using he
            simpa using this.1
          rw [Z.rw_] at in_
          obtain ⟨y2, m2, e2⟩ := List.mem_map.mp in_
          exact ⟨y2.1, y2.2, by rw [← ee, ← e2], Z.mem y2 m2⟩
        · refine wp_if_neg (by decide) ?_
          try refine wpAny_bind (wpAny_pure ?_)
          exact on
    · have pr' : t.probe (fun i => (es[i]?.map (·.1)).getD 0) g (st.getD (t.probeStart g)) = some (.empty (way t.mask g K) none) := by
        have e2 := place (K - c)
        rw [cKK] at e2
        rw [es0, ← e2]
        exact pr
      rw [pr']
      dsimp only
      refine wpAny_pure (no fun m => ?_)
      obtain ⟨y, my, ky⟩ := List.mem_map.mp m
      obtain ⟨j, hj, ej⟩ := List.getElem_of_mem my
      have ey : L[j]? = some y := by rw [List.getElem?_eq_getElem hj, ej]
      obtain ⟨d, d1, d2, d3⟩ := left j y ey ky
      exact skip (d - c) j (by omega) (by rw [place, show c + (d - c) = d by omega]; exact d3) ((hashes j y ey).trans (by rw [← eg, ← ky]; rfl))
/-- .. as an adding asks -/
theorem sn_find (Z : SetN P w s.heap a es ep t L) {x : Addr} {k : NK} {g : Int} (eg : k.hash w = g) (kx : KN s.heap k x) (hu : A.units + 8 < cLine) {Q : SetFound → Shared → Prop} (yes : k ∈ L.map (·.1) → Q (.there none) s)
    (no : ∀ K, k ∉ L.map (·.1) → way t.mask g K ∉ t.place.toList → (∀ c, c < K → way t.mask g c ∈ t.place.toList) → Q (.free (way t.mask g K) false) s) : wpAny (model P w) A (setSearch a (.ref x) g true) Q E s := by
  have room := Z.rm
  obtain ⟨K, k1, k2, k3⟩ := Z.tb.first (by rw [List.length_map]; omega) g
  have few : K < 100000 := by
    have : 10 * SetTable.turns t.mask ≤ 1420 := by
      unfold SetTable.turns
      rcases Z.tb.mok with e | e | e <;> omega
    omega
  unfold setSearch
  refine sn_look Z eg kx hu k1 k2 k3 yes (fun n => no K n k2 k3) 100000 0 none rfl (Nat.zero_le _) (by omega) fun i z ez kz => ?_
  have hi : (L.map (hsN w))[i]? = some g := by rw [List.getElem?_map, ez, ← eg, ← kz]; rfl
  have il : i < t.place.toList.length := by
    rw [Array.length_toList, Z.plc]
    exact (List.getElem?_eq_some_iff.mp ez).1
  have ej := List.getElem?_eq_getElem il
  obtain ⟨d, hd, e⟩ := Z.tb.before k2 hi ej
  exact ⟨d, Nat.zero_le _, hd, by rw [ej, e]⟩
theorem range_at {α : Type} : ∀ L : List α, (List.range L.length).filterMap (fun i => L[i]?) = L
  | [] => rfl
  | x :: L => by
    rw [List.length_cons, List.range_succ_eq_map, List.filterMap_cons]
    simp only [List.getElem?_cons_zero, List.filterMap_map]
    congr 1
    exact range_at L
/-- the rows taken in another order -/
theorem rwN_order {order : Array Nat} (hr : es.toList = rwN w L) (hp : order.toList.Perm (List.range L.length)) :
    ∃ M, (order.filterMap (es[·]?)).toList = rwN w M ∧ M.Perm L ∧ M.map (hsN w) = order.toList.map fun i => (es.map (·.1)).getD i 0 := by
  have at_ : ∀ i : Nat, es[i]? = (L[i]?).map fun z => (hsN w z, Value.ref z.2) := fun i => by
    rw [← Array.getElem?_toList, hr]
    unfold rwN
    rw [List.getElem?_map]
  refine ⟨order.toList.filterMap fun i => L[i]?, ?_, ?_, ?_⟩
  · rw [Array.toList_filterMap]
    unfold rwN
    rw [List.map_filterMap]
    congr 1
    funext i
    exact at_ i
  · have := hp.filterMap fun i => L[i]?
    rw [range_at] at this
    exact this
  · have all : ∀ l : List Nat, (∀ i ∈ l, i < L.length) → (l.filterMap fun i => L[i]?).map (hsN w) = l.map fun i => (es.map (·.1)).getD i 0 := by
      intro l
      induction l with
      | nil => intro _; rfl
      | cons i l ih =>
        intro h
        have hi := h i List.mem_cons_self
        have e1 : L[i]? = some L[i] := List.getElem?_eq_getElem hi
        have e2 : (es.map (·.1))[i]? = some (hsN w L[i]) := by rw [Array.getElem?_map, at_, e1]; rfl
        rw [List.filterMap_cons_some e1, List.map_cons, List.map_cons, ih fun j m => h j (List.mem_cons_of_mem _ m)]
        congr 1
        rw [Array.getD_eq_getD_getElem?, e2]
        rfl
    exact all _ fun i m => List.mem_range.mp (hp.mem_iff.mp m)
/-- a larger table -/
theorem sn_larger {o : Obj} (o1 : s.heap.get? a = some o) (o2 : o.ExactSet) (o3 : o.data = .set es ep t) (hr : es.toList = rwN w L) (hp : t.place.size = es.size) (dm : t.dummies = #[]) (le : es.size ≤ t.mask) (nd : (L.map (·.1)).Nodup)
    (mem : ∀ z ∈ L, KN s.heap z.1 z.2) (pl : t.plain = true) (ld : w.params.followText "set-order" = true ∨ t.led = true) (fw : L.length < 64) {n M : Nat} (hM : SetTable.sizeAbove n - 1 = M) (ok : MaskOk M) (big : SetTable.sizeAbove n ≤ 128) (rm : L.length * 5 < M * 3)
    {Q : Unit → Shared → Prop} (q : ∀ h' es' ep' t' L', Heap.SameBut a s.heap h' → SetN P w h' a es' ep' t' L' → L'.Perm L → Q () { s with heap := h' }) : wpAny (model P w) A (setRelay a n) Q E s := by
  have sz : es.size = L.length := by rw [← Array.length_toList, hr, rwN_len]
  have fits : t.fits es.size = true := by
    unfold SetTable.fits SetTable.fill
    rw [dm, Bool.and_eq_true, beq_iff_eq, decide_eq_true_eq]
    show t.place.size = es.size ∧ t.place.size + 0 ≤ t.mask
    omega
  obtain ⟨t', order, e, pm, T, em, el, epl, edm⟩ := relaid_ok t (hs := es.map (·.1)) (wanted := n) hM ok (by rw [Array.size_map, sz]; omega)
  rw [Array.size_map, sz] at pm
  obtain ⟨L', r1, r2, r3⟩ := rwN_order hr pm
  rw [← r3] at T
  have sz' : (order.filterMap (es[·]?)).size = es.size := by rw [← Array.length_toList, r1, rwN_len, r2.length_eq, sz]
  rw [setRelay_eq]
  refine wpAny_bind (wpAny_setState_of o1 o3 fits ?_)
  dsimp only
  refine wp_if_neg (by rw [sizeLine_eq]; omega) ?_
  try refine wpAny_bind (wpAny_pure ?_)
  rw [e]
  dsimp only
  refine wpAny_bind ?_
  refine wp_if_neg (by rw [sz']; simp) ?_
  try refine wpAny_bind (wpAny_pure ?_)
  refine wpAny_pure ?_
  dsimp only
  refine wpAny_storeSet_of o1 o3 ?_ (by rw [sz', sz, sizeLine_eq]; omega)
  have sb : Heap.SameBut a s.heap (s.heap.update a (Obj.putSet (order.filterMap (es[·]?)) t')) := Heap.SameBut.update ..
  refine q _ _ (ep + 1) t' L' sb ⟨⟨_, store_at o1 o3, ⟨o2.1, o2.2.1, o2.2.2⟩, rfl⟩, r1, T, (r2.map (·.1)).nodup_iff.mpr nd, fun z m => (mem z (r2.mem_iff.mp m)).but o1 o3 sb, by rw [epl]; exact pl, by rw [el]; exact ld, by rw [r2.length_eq, em]; exact rm, by rw [r2.length_eq]; exact fw⟩ r2
theorem rwN_put (L : List (NK × Addr)) (p : Nat) (z : NK × Addr) : rwN w (L.take p ++ z :: L.drop p) = (rwN w L).take p ++ (hsN w z, Value.ref z.2) :: (rwN w L).drop p := by
  unfold rwN
  rw [List.map_append, List.map_cons, List.map_take, List.map_drop]
/-- a member is added -/
theorem sn_add (Z : SetN P w s.heap a es ep t L) {x : Addr} {k : NK} {g : Int} (eg : k.hash w = g) (kx : KN s.heap k x) (hu : A.units + 8 < cLine) (fw1 : L.length + 1 < 64) {Q : Bool → Shared → Prop}
    (q : ∀ b h' es' ep' t' L', Heap.SameBut a s.heap h' → SetN P w h' a es' ep' t' L' → (k ∈ L.map (·.1) → L' = L) → (k ∉ L.map (·.1) → L'.Perm ((k, x) :: L)) → Q b { s with heap := h' }) : wpAny (model P w) A (setAddHashed a (.ref x) g) Q E s := by
  obtain ⟨o, o1, o2, o3⟩ := Z.obj
  have sz := Z.sz
  have rm := Z.rm
  unfold setAddHashed
  refine wpAny_holding ?_
  rw [show (100000 : Nat) = 99999 + 1 from rfl, setAddHashedIn_succ]
  refine wpAny_bind (wpAny_setState_of o1 o3 Z.fit ?_)
  dsimp only
  refine wp_if_neg (by simp [byScan, Value.scannable]) ?_
  try refine wpAny_bind (wpAny_pure ?_)
  refine wpAny_bind (sn_find Z eg kx hu (fun m => ?_) fun K m k2 k3 => ?_)
  · dsimp only
    exact wpAny_pure (q false s.heap es ep t L (Heap.SameBut.refl a s.heap) Z (fun _ => rfl) fun n => absurd m n)
  · dsimp only
    refine wpAny_bind (wpAny_setState_of o1 o3 Z.fit ?_)
    dsimp only
    obtain ⟨q1, q2, q3, q4, q5, q6, q7, q8, q9⟩ := Z.tb.put k2 k3
    have pl1 : (t.put (way t.mask g K)).1.plain = true := by rw [q6]; exact Z.pl
    generalize hpt : t.put (way t.mask g K) = pt at q1 q3 q4 q5 q6 q7 q8 q9 pl1 ⊢
    obtain ⟨t1, p1⟩ := pt
    dsimp only at q1 q3 q4 q5 q6 q7 q8 q9 pl1 ⊢
    subst q1
    first
      | (refine wpAny_bind ?_; refine wp_if_pos pl1 ?_; refine byVal_key k _ 8 _ kx.nk kx.dp kx.tx _ _ _ ?_)
      | refine wp_if_pos pl1 (wpAny_bind (byVal_key k _ 8 _ kx.nk kx.dp kx.tx _ _ _ ?_))
    simp only [if_true]
    generalize hpp : SetTable.below t.place (way t.mask g K) = p at q2 q3 ⊢
    have rows : (SetTable.insertAt es p (g, Value.ref x)).toList = rwN w (L.take p ++ (k, x) :: L.drop p) := by
      rw [SetTable.toList_insertAt, rwN_put, Z.rw_, ← eg]
      rfl
    have pm := put_perm L p (k, x)
    have len1 : (L.take p ++ (k, x) :: L.drop p).length = L.length + 1 := pm.length_eq
    have tb1 : (L.take p ++ (k, x) :: L.drop p).map (hsN w) = (L.map (hsN w)).take p ++ g :: (L.map (hsN w)).drop p := by
      rw [List.map_append, List.map_cons, List.map_take, List.map_drop, ← eg]
      rfl
    rw [← tb1] at q3
    have nd1 : ((L.take p ++ (k, x) :: L.drop p).map (·.1)).Nodup := (pm.map (·.1)).nodup_iff.mpr (by rw [List.map_cons]; exact List.nodup_cons.mpr ⟨m, Z.nd⟩)
    generalize SetTable.insertAt es p (g, Value.ref x) = es1 at rows ⊢
    generalize L.take p ++ (k, x) :: L.drop p = L1 at pm len1 q3 nd1 rows
    have sz1 : es1.size = L.length + 1 := by rw [← Array.length_toList, rows, rwN_len, len1]
    refine wpAny_bind (wpAny_storeSet_of o1 o3 ?_ (by rw [sz1, sizeLine_eq]; omega))
    have sb : Heap.SameBut a s.heap (s.heap.update a (Obj.putSet es1 t1)) := Heap.SameBut.update ..
    have o1' := store_at (es' := es1) (t' := t1) o1 o3
    generalize s.heap.update a (Obj.putSet es1 t1) = h1 at sb o1' ⊢
    have mem1 : ∀ z ∈ L1, KN h1 z.1 z.2 := fun z mz => by
      rcases List.mem_cons.mp (pm.mem_iff.mp mz) with e | mz
      · rw [e]; exact kx.but o1 o3 sb
      · exact (Z.mem z mz).but o1 o3 sb
    have ld1 : w.params.followText "set-order" = true ∨ t1.led = true := by rw [q5]; exact Z.ld
    by_cases full : t1.tooFull = true
    · first
        | (refine wpAny_bind ?_; refine wp_if_pos (by simp [full]) ?_)
        | (refine wp_if_pos (by simp [full]) ?_; refine wpAny_bind ?_)
      have much : (L.length + 1) * 5 ≥ t1.mask * 3 := by
        unfold SetTable.tooFull at full
        rw [decide_eq_true_eq, q9, List.length_map] at full
        exact full
      rw [sz]
      have plc1 : t1.place.size = es1.size := by
        have e := q3.sz
        rw [List.length_map, len1] at e
        rw [e, sz1]
      have two : (t.mask = 7 ∧ L.length = 4) ∨ (t.mask = 31 ∧ L.length = 18) := by
        rcases Z.tb.mok with e | e | e
        · rw [q4, e] at much; rw [e] at rm; exact .inl ⟨e, by omega⟩
        · rw [q4, e] at much; rw [e] at rm; exact .inr ⟨e, by omega⟩
        · rw [q4, e] at much; omega
      have grow : ∀ M, SetTable.sizeAbove (SetTable.grown (L.length + 1)) - 1 = M → MaskOk M → SetTable.sizeAbove (SetTable.grown (L.length + 1)) ≤ 128 → (L.length + 1) * 5 < M * 3 →
          wpAny (model P w) A (setRelay a (SetTable.grown (L.length + 1))) (fun _ s2 => wpAny (model P w) A (pure true) Q E s2) E { s with heap := h1 } := fun M m1 m2 m3 m4 => by
        refine sn_larger (s := { s with heap := h1 }) o1' ⟨o2.1, o2.2.1, o2.2.2⟩ rfl rows plc1 q3.dm (by rw [sz1, q4]; rcases two with ⟨e, e2⟩ | ⟨e, e2⟩ <;> omega) nd1 mem1 pl1 ld1 (by rw [len1]; exact fw1) m1 m2 m3 (by rw [len1]; exact m4) fun h2 es2 ep2 t2 L2 sb2 Z2 pm2 => ?_
        exact wpAny_pure (q true h2 es2 ep2 t2 L2 (sb.trans sb2) Z2 (fun y => absurd y m) fun _ => pm2.trans pm)
      rcases two with ⟨_, e2⟩ | ⟨_, e2⟩
      · exact grow 31 (by rw [e2, size_20]) (.inr (.inl rfl)) (by rw [e2, size_20]; decide) (by omega)
      · exact grow 127 (by rw [e2, size_76]) (.inr (.inr rfl)) (by rw [e2, size_76]; decide) (by omega)
    · first
        | refine wp_if_neg (by simp [full]) ?_
        | (refine wpAny_bind ?_; refine wp_if_neg (by simp [full]) ?_; refine wpAny_pure ?_)
      refine wpAny_pure (q true h1 es1 (ep + 1) t1 L1 sb ⟨⟨_, o1', ⟨o2.1, o2.2.1, o2.2.2⟩, rfl⟩, rows, q3, nd1, mem1, pl1, ld1, ?_, by rw [len1]; exact fw1⟩ (fun y => absurd y m) fun _ => pm)
      unfold SetTable.tooFull at full
      rw [decide_eq_true_eq, q9, List.length_map] at full
      rw [len1]
      omega
/-- what the set has of the first i -/
structure Has (ks : List (NK × Addr)) (i : Nat) (L : List (NK × Addr)) : Prop where
  sub : ∀ z ∈ L, z ∈ ks.take i
  all : ∀ z ∈ ks.take i, z.1 ∈ L.map (·.1)
  len : L.length ≤ i
theorem Has.next {ks L L' : List (NK × Addr)} {i : Nat} {z : NK × Addr} (H : Has ks i L) (e : ks[i]? = some z) (old : z.1 ∈ L.map (·.1) → L' = L) (new : z.1 ∉ L.map (·.1) → L'.Perm (z :: L)) : Has ks (i + 1) L' := by
  have tn := take_next e
  by_cases m : z.1 ∈ L.map (·.1)
  · rw [old m]
    refine ⟨fun y my => ?_, fun y my => ?_, Nat.le_succ_of_le H.len⟩
    · rw [tn]; exact List.mem_append_left _ (H.sub y my)
    · rw [tn] at my
      rcases List.mem_append.mp my with q | q
      · exact H.all y q
      · rw [List.mem_singleton.mp q]; exact m
  · have pm := new m
    refine ⟨fun y my => ?_, fun y my => ?_, by have := H.len; rw [pm.length_eq, List.length_cons]; omega⟩
    · rw [tn]
      rcases List.mem_cons.mp (pm.mem_iff.mp my) with q | q
      · rw [q]; simp
      · exact List.mem_append_left _ (H.sub y q)
    · rw [(pm.map (·.1)).mem_iff, List.map_cons]
      rw [tn] at my
      rcases List.mem_append.mp my with q | q
      · exact List.mem_cons_of_mem _ (H.all y q)
      · rw [List.mem_singleton.mp q]; exact List.mem_cons_self
theorem SetN.on {h h' : Heap} (Z : SetN P w h a es ep t L) (ha : ∀ o, h.get? a = some o → h'.get? a = some o) (hm : ∀ z ∈ L, KN h' z.1 z.2) : SetN P w h' a es ep t L := by
  obtain ⟨o, o1, o2⟩ := Z.obj
  exact ⟨⟨o, ha o o1, o2⟩, Z.rw_, Z.tb, Z.nd, hm, Z.pl, Z.ld, Z.rm, Z.fw⟩
abbrev set0 (w : World) : Obj := { cls := .type "set", dict := none, data := .set #[] 0 (.fresh 0 0 (!w.params.followText "set-order")) }
theorem sn_empty {h : Heap} (e : h.get? a = some (set0 w)) : SetN P w h a #[] 0 (.fresh 0 0 (!w.params.followText "set-order")) [] where
  obj := ⟨_, e, ⟨rfl, rfl, rfl⟩, rfl⟩
  rw_ := rfl
  tb := ⟨List.Pairwise.nil, rfl, rfl, .inl rfl, fun _ m => (nomatch m), fun i _ _ hi => by simp at hi⟩
  nd := List.nodup_nil
  mem := fun _ m => nomatch m
  pl := rfl
  ld := by
    show _ ∨ (!w.params.followText "set-order") = true
    cases w.params.followText "set-order"
    · exact .inr rfl
    · exact .inl rfl
  rm := by
    show 0 * 5 < 7 * 3
    omega
  fw := by
    show 0 < 64
    omega
/-- the loop of set.update -/
theorem sn_update {I : Addr} {fp wr : List Addr} {G : Array GenState → Array GenState → Prop} {n : Nat} {Pv : Nat → Value → Prop} {St : Nat → Shared → Prop} {R : Result → Shared → Prop} (W : WalksS P w A.in1 I fp wr G n Pv St) (S : Addr) (nS : S ∉ fp) (ks : List (NK × Addr))
    (hn : n = ks.length) (fw : ks.length < 64) (val : ∀ i v, Pv i v → ∃ z, ks[i]? = some z ∧ v = .ref z.2) (h0 : Heap) (mem : ∀ z ∈ ks, KN h0 z.1 z.2) (hS : h0.get? S = none) (hw : ∀ b ∈ wr, h0.get? b = none) (hu : A.in1.units + 9 < cLine) :
    ∀ (m i : Nat) (s : Shared), n - i = m → i ≤ n → St i s → (∀ b o, h0.get? b = some o → s.heap.get? b = some o) → (∃ es ep t L, SetN P w s.heap S es ep t L ∧ Has ks i L) →
      (∀ s2 es ep t L, Moved (S :: wr) G s s2 → SetN P w s2.heap S es ep t L → Has ks n L → (∀ b o, h0.get? b = some o → s2.heap.get? b = some o) → R (.ok (.ret .none)) s2) → codeAny (model P w) A (.builtin "set.update.loop" ⟨[.ref S, .ref I], []⟩) R s := by
  have nw : S ∉ wr := fun z => nS (W.sub _ z)
  have up : ∀ b ∈ wr, b ∈ S :: wr := fun b m => List.mem_cons_of_mem _ m
  have keep : ∀ {s s2 : Shared}, Moved wr G s s2 → (∀ b o, h0.get? b = some o → s.heap.get? b = some o) → ∀ b o, h0.get? b = some o → s2.heap.get? b = some o := fun mv k b o e => mv.heap b o (fun m => by rw [hw b m] at e; cases e) (k b o e)
  intro m
  induction m with
  | zero =>
    intro i s e0 le st k ⟨es, ep, t, L, Z, H⟩ q
    have ei : i = n := by omega
    subst ei
    refine codeAny_builtin F.entry_set_update_loop ?_
    rw [Around.under_plainId F.plain_set_update_loop _]
    show wpAny _ A.in1 (pyNext (.ref I) >>= _) _ _ s
    refine wpAny_bind (W.done s _ _ st fun s2 mv => ?_)
    show wpAny _ A.in1 (ret Value.none) _ _ s2
    have k2 := keep mv k
    exact wpAny_pure (q s2 es ep t L (mv.mono up) (Z.on (fun o e => mv.heap S o nw e) fun z mz => (mem z (List.mem_of_mem_take (H.sub z mz))).keep k2) H k2)
  | succ m ih =>
    intro i s e0 le st k ⟨es, ep, t, L, Z, H⟩ q
    have lt : i < n := by omega
    refine codeAny_builtin F.entry_set_update_loop ?_
    rw [Around.under_plainId F.plain_set_update_loop _]
    show wpAny _ A.in1 (pyNext (.ref I) >>= _) _ _ s
    refine wpAny_bind (W.item i s _ _ lt st fun v s2 pv st2 mv => ?_)
    obtain ⟨z, ez, rfl⟩ := val i v pv
    have k2 := keep mv k
    have Z2 : SetN P w s2.heap S es ep t L := Z.on (fun o e => mv.heap S o nw e) fun y my => (mem y (List.mem_of_mem_take (H.sub y my))).keep k2
    have kz : KN s2.heap z.1 z.2 := (mem z (List.mem_of_getElem? ez)).keep k2
    show wpAny _ A.in1 (holding [Value.ref z.2] (setAdd S (.ref z.2)) >>= _) _ _ s2
    refine wpAny_bind (wpAny_holding ?_)
    unfold setAdd
    refine wpAny_holding ?_
    refine wpAny_bind ((nestedKind P w).pyHash (show A.in1.units + 8 < cLine by omega) ⟨kz.nk, kz.dp⟩ ?_)
    refine sn_add (s := { s2 with toks := s2.toks + (nestedKind P w).draws z.1 }) Z2 rfl kz (by omega) (by have := H.len; omega) fun b h' es' ep' t' L' sb Z3 c1 c2 => ?_
    have H' : Has ks (i + 1) L' := H.next ez c1 c2
    have k3 : ∀ b o, h0.get? b = some o → h'.get? b = some o := fun b o e => (sb.2 b (fun y => by rw [y, hS] at e; cases e)).trans (k2 b o e)
    refine wpAny_pure ⟨plainId_quiet F.plain_set_update_loop _, ih (i + 1) _ (by omega) lt (W.frame _ s2 _ _ st2 (Nat.le_add_right _ _) fun b mb o e => ?_) k3 ⟨es', ep', t', L', Z3, H'⟩ fun s4 es2 ep2 t2 L2 mv4 Z4 H4 k4 => ?_⟩
    · rw [sb.2 b (fun y : b = S => nS (by rw [← y]; exact mb))]; exact e
    · refine q s4 es2 ep2 t2 L2 (Moved.trans W.gtrans ((mv.mono up).then_heap (Nat.le_add_right _ _) fun b o mb e => ?_) mv4) Z4 H4 k4
      rw [sb.2 b (fun y : b = S => mb (by rw [y]; exact List.mem_cons_self))]; exact e
theorem set_new (h : Heap) : (h.push (set0 w)).get? h.objs.size = some (set0 w) := Heap.get?_push_size _ rfl
/-- set(list) -/
theorem sn_call {l : Addr} {its : Array Value} (ks : List (NK × Addr)) {Q : Value → Shared → Prop} (hh : A.handled = none) (hl : s.heap.IsList l its) (ei : its.toList = ks.map fun z => Value.ref z.2) (mem : ∀ z ∈ ks, KN s.heap z.1 z.2) (fw : ks.length < 64) (hu : A.units + 20 < cLine)
    (q : ∀ (h' : Heap) (tk : Nat) es ep t L, SetN P w h' s.heap.objs.size es ep t L → Has ks ks.length L → (∀ b o, s.heap.get? b = some o → h'.get? b = some o) → Q (.ref s.heap.objs.size) { s with heap := h', toks := tk }) : wpAny (model P w) A (call (.type "set") [.ref l]) Q E s := by
  have zs : its.size = ks.length := by rw [← Array.length_toList, ei, List.length_map]
  obtain ⟨c, tl, mro⟩ := F.called_set.mro
  have f1 := F.called_set.made
  have f2 := F.called_set.sub
  refine wpAny_call (codeAny_of_tree ?_)
  show wpAny _ _ (callAny (.type "set") _) _ _ _
  refine wpAny_pure ⟨Code.quiet_builtin _ (by decide +kernel), codeAny_builtin F.entry_type_call ?_⟩
  rw [Around.under_plain (weight_type_call_type "set" [.ref l] []) rfl]
  have f3 := F.called_set.notType
  have f4 := F.called_set.canCreate
  have f5 := F.typeCall_set_1 (.ref l)
  repeat (any_goals (first | assumption | wp_step))
  refine codeAny_mono (code_set_led1 (.ref l) (E := E) (Q₁ := fun r s1 => r = .ref s.heap.objs.size ∧ s1 = { s with heap := s.heap.push (set0 w) }) ⟨rfl, rfl⟩) fun r s1 hr => ?_
  cases r with
  | error e => exact hr
  | ok fl =>
    cases fl with
    | ret r =>
      obtain ⟨rfl, rfl⟩ := hr
      have new := set_new (w := w) s.heap
      have ty : Shared.TypeIs { s with heap := s.heap.push (set0 w) } (.ref s.heap.objs.size) "set" := ⟨_, new, rfl⟩
      have f6 := F.called_set.init.lookup
      have f7 := F.called_set.init.bind (.ref s.heap.objs.size)
      repeat (any_goals (first | assumption | wp_step))
      refine codeAny_mono (codeAny_call_builtin (R := wants (fun r s2 => r = .none ∧ ∃ h' tk es ep t L, s2 = { s with heap := h', toks := tk } ∧ SetN P w h' s.heap.objs.size es ep t L ∧ Has ks ks.length L ∧ (∀ b o, s.heap.get? b = some o → h'.get? b = some o)) E) F.called_set.init.plain F.entry_set_init (check_set_init_1 ty ?_)) fun r2 s2 hr2 => ?_
      · obtain ⟨ol, gl, kl, nl, dl⟩ := hl
        obtain ⟨oc, od, ot, os⟩ := ol
        simp only at kl dl
        subst kl; subst dl
        have gl1 : (s.heap.push (set0 w)).get? l = some { cls := .type "list", dict := od, data := .seq its nl, slots := os } := Heap.get?_push_of_some _ gl
        have f8 := F.sub_list_set
        have f9 := F.sub_list_frozenset
        have nd : (Value.type "list" == Value.type "dict") = false := by decide
        have l1 : (s.heap.push (set0 w)).IsList l its := ⟨_, gl1, rfl, nl, rfl⟩
        unfold Builtin.«set.__init__» noKeywords Builtin.Frozenset.updateFrom
        generalize hPI : pyIter = PI
        wp_walk
        subst hPI
        refine wpAny_pyIter_list l1 ?_
        refine wpAny_bind (wpAny_runValue ?_)
        have lS : l < s.heap.objs.size := Heap.lt_size gl
        have h3 : A.in1.in1.in1.handled = none := by simp [hh]
        have z1 : (s.heap.push (set0 w)).objs.size = s.heap.objs.size + 1 := Heap.size_push ..
        have nI : l ≠ (s.heap.push (set0 w)).objs.size := by rw [z1]; exact Nat.ne_of_lt (Nat.lt_succ_of_lt lS)
        have nS : s.heap.objs.size ∉ [(s.heap.push (set0 w)).objs.size, l] := by
          rw [z1]
          simp only [List.mem_cons, List.mem_singleton, List.not_mem_nil, or_false, not_or]
          exact ⟨Nat.ne_of_lt (Nat.lt_succ_self _), Nat.ne_of_gt lS⟩
        have val : ∀ (i : Nat) (v : Value), its[i]? = some v → ∃ z, ks[i]? = some z ∧ v = .ref z.2 := fun i v ev => by
          rw [← Array.getElem?_toList, ei, List.getElem?_map] at ev
          cases ez : ks[i]? with
          | none => rw [ez] at ev; cases ev
          | some z => rw [ez] at ev; exact ⟨z, rfl, (Option.some.inj ev).symm⟩
        have none_ : ∀ b, s.heap.objs.size ≤ b → s.heap.get? b = none := fun b le => by
          cases z : s.heap.get? b with
          | none => rfl
          | some o => exact absurd (Nat.lt_of_lt_of_le (Heap.lt_size z) le) (Nat.lt_irrefl _)
        refine sn_update ((Walks.list h3 _ l nI its).toS) s.heap.objs.size nS ks zs fw val s.heap mem (none_ _ (Nat.le_refl _)) (fun b m => none_ b (by rw [List.mem_singleton.mp m, z1]; exact Nat.le_succ _)) (by have : A.in1.in1.in1.units = A.units + 3 := rfl; omega) (its.size - 0) 0 _ (by omega) (Nat.zero_le _)
          ⟨⟨_, Heap.get?_push_size _ rfl, rfl, rfl⟩, (l1.push _)⟩ (fun b o e => Heap.get?_push_of_some _ (Heap.get?_push_of_some _ e)) ?first ?last
        case first =>
          exact ⟨#[], 0, _, [], sn_empty (Heap.get?_push_of_some _ new), ⟨fun _ m => (nomatch m), fun z m => by simp at m, Nat.le_refl _⟩⟩
        case last =>
          intro s2 es ep t L mv Z H k
          obtain ⟨h', g2, d', tk', os'⟩ := s2
          have eg : g2 = s.gens := mv.gens
          have ed : d' = s.drawn := mv.drawn
          have eo : os' = s.os := mv.os
          subst eg; subst ed; subst eo
          show wpAny _ _ _ _ _ _
          refine wpAny_pure ?_
          show wpAny _ _ (ret Value.none) _ _ _
          rw [zs] at H
          exact wpAny_pure ⟨rfl, h', tk', es, ep, t, L, rfl, Z, H, k⟩
      · cases r2 with
        | error e => exact hr2
        | ok fl2 =>
          cases fl2 with
          | ret r =>
            obtain ⟨rfl, h', tk, es, ep, t, L, rfl, Z, H, k⟩ := hr2
            repeat (any_goals (first | assumption | wp_step))
            exact q _ _ _ _ _ _ Z H k
          | _ => exact hr2.elim
    | _ => exact hr.elim
end
end DL
namespace DL
open PySem PySem.Spec PyProof.Rows L2
mutual
theorem NkS.readsO {h : Heap} : ∀ (k : NK) (v : Value), NkS h k v → ∃ as, Reads h v k.data as ∧ ∀ b ∈ as, ∃ o, h.get? b = some o
  | .none, v, q => by cases q; rw [NestedKey.data]; exact ⟨_, .none, fun _ m => nomatch m⟩
  | .num i, v, q => by cases q; rw [NestedKey.data]; exact ⟨_, .int _ _, fun _ m => nomatch m⟩
  | .text x, v, q => by cases q; rw [NestedKey.data]; exact ⟨_, .str _ _, fun _ m => nomatch m⟩
  | .tup ks, v, q => by
    cases q with
    | tup e c d a =>
      obtain ⟨as, r, z⟩ := NkSs.readsO ks _ a
      rw [NestedKey.data]
      exact ⟨_, .tuple e c d r, z⟩
theorem NkSs.readsO {h : Heap} : ∀ (ks : List NK) (vs : List Value), NkSs h ks vs → ∃ as, ReadsAll h vs (NestedKey.datas ks) as ∧ ∀ b ∈ as, ∃ o, h.get? b = some o
  | [], vs, q => by cases q; rw [NestedKey.datas]; exact ⟨_, .nil, fun _ m => nomatch m⟩
  | k :: ks, vs, q => by
    cases q with
    | cons a b =>
      obtain ⟨as, r, z1⟩ := NkS.readsO k _ a
      obtain ⟨bs, t, z2⟩ := NkSs.readsO ks _ b
      rw [NestedKey.datas]
      refine ⟨_, .cons r t, fun c m => ?_⟩
      rcases List.mem_append.mp m with y | y
      · exact z1 c y
      · exact z2 c y
end
/-- the members, by their data's own order -/
def srtN (L : List (NK × Addr)) : List (NK × Addr) := L.mergeSort (PySem.W.dataLe false fun z => z.1.data)
theorem each_refs : ∀ L : List (NK × Addr), PySem.W.EachIs (fun v (z : NK × Addr) => v = Value.ref z.2) (L.map fun z => Value.ref z.2) L
  | [] => .nil
  | z :: L => .cons rfl (each_refs L)
theorem each_refs_eq : ∀ {us : List Value} {L : List (NK × Addr)}, PySem.W.EachIs (fun v (z : NK × Addr) => v = Value.ref z.2) us L → us = L.map fun z => Value.ref z.2
  | _, _, .nil => rfl
  | _, _, .cons a t => by rw [List.map_cons, a, each_refs_eq t]
theorem each_of_mem {R : Value → (NK × Addr) → Prop} : ∀ L : List (NK × Addr), (∀ z ∈ L, R (.ref z.2) z) → PySem.W.EachIs R (L.map fun z => Value.ref z.2) L
  | [], _ => .nil
  | z :: L, h => .cons (h z List.mem_cons_self) (each_of_mem L fun y m => h y (List.mem_cons_of_mem _ m))
section
variable {P : Program} {w : World} {A : Around} {E : Value → Shared → Prop} {s : Shared} {a : Addr} {es : Array (Int × Value)} {ep : Nat} {t : SetTable} {L : List (NK × Addr)}
/-- sorted(set) -/
theorem sn_sorted {Q : Value → Shared → Prop} (Z : SetN P w s.heap a es ep t L) (hh : A.handled = none) (hu : A.units + 70 < cLine) (nk : ∀ z ∈ L, NkS s.heap z.1 (.ref z.2)) (al : PySem.W.AllAlike (L.map fun z => z.1.data)) (st : PySem.W.Sortable (L.map fun z => z.1.data)) (dp : ∀ z ∈ L, z.1.data.depth ≤ 62)
    (q : ∀ s2 p (out : Array Value) (c : Nat) (M : List (NK × Addr)), (∀ b o, s.heap.get? b = some o → s2.heap.get? b = some o) → s2.gens = s.gens → s2.os = s.os → s.heap.objs.size ≤ p → s2.heap.get? p = some (seqObj "list" out c) → out.toList = (srtN M).map (fun z => Value.ref z.2) → M.Perm L → Q (.ref p) s2) :
    wpAny (model P w) A (call (.builtin "sorted") [.ref a]) Q E s := by
  obtain ⟨o, o1, o2, o3⟩ := Z.obj
  have sz := Z.sz
  have fw := Z.fw
  refine Calls.call_function_entry kind_sorted plain_sorted entry_sorted (args_sorted1 _) ?_
  unfold Builtin.«sorted»
  refine wpAny_bind (m := checkCount "sorted" 1 1 _) (wpAny_pure ?_)
  refine wpAny_bind (collect_set (A := A.in1) hh ⟨o, o1, o2.1, o3⟩ Z.fit (by unfold scanBound; omega) Z.tb.ris Z.ld fun s1 vs k1 big g1 y1 pm => ?_)
  have refs : es.toList.map (·.2) = L.map fun z => Value.ref z.2 := by
    rw [Z.rw_]
    unfold rwN
    rw [List.map_map]
    rfl
  rw [refs] at pm
  obtain ⟨M, eM, pM⟩ : ∃ M : List (NK × Addr), vs = M.map (fun z => Value.ref z.2) ∧ M.Perm L := by
    have : ∀ {us vs : List Value}, us.Perm vs → ∀ N : List (NK × Addr), vs = N.map (fun z => Value.ref z.2) → ∃ M : List (NK × Addr), us = M.map (fun z => Value.ref z.2) ∧ M.Perm N := fun {us vs} h => by
      induction h with
      | nil => intro N e; cases N with
        | nil => exact ⟨[], rfl, .refl _⟩
        | cons _ _ => cases e
      | cons x _ ih => intro N e; cases N with
        | nil => cases e
        | cons z N =>
          rw [List.map_cons] at e
          injection e with e1 e2
          obtain ⟨M, m1, m2⟩ := ih N e2
          exact ⟨z :: M, by rw [List.map_cons, e1, m1], m2.cons z⟩
      | swap x y l => intro N e; cases N with
        | nil => cases e
        | cons z N => cases N with
          | nil => simp at e
          | cons z2 N =>
            rw [List.map_cons, List.map_cons] at e
            injection e with e1 e2
            injection e2 with e2 e3
            exact ⟨z2 :: z :: N, by rw [List.map_cons, List.map_cons, e1, e2, e3], .swap _ _ _⟩
      | trans _ _ ih1 ih2 =>
        intro N e
        obtain ⟨M2, m1, m2⟩ := ih2 N e
        obtain ⟨M, n1, n2⟩ := ih1 M2 m1
        exact ⟨M, n1, n2.trans m2⟩
    exact this pm L rfl
  have vl : vs.length < 64 := by rw [pm.length_eq, List.length_map]; exact fw
  refine wpAny_bind (wpAny_newList ?_ (by rw [sizeLine_eq]; omega))
  have lst : (s1.heap.push (seqObj "list" vs.toArray 0)).get? s1.heap.objs.size = some (seqObj "list" vs.toArray 0) := Heap.get?_push_size _ rfl
  have dM : (M.map fun z => z.1.data).Perm (L.map fun z => z.1.data) := pM.map _
  have al2 : PySem.W.AllAlike (M.map fun z => z.1.data) := fun d m d' m' => al d (dM.mem_iff.mp m) d' (dM.mem_iff.mp m')
  have st2 : PySem.W.Sortable (M.map fun z => z.1.data) := st.imp (fun h d m => h d (dM.mem_iff.mp m)) fun h d m => h d (dM.mem_iff.mp m)
  have ml : M.length ≤ sizeLine := by rw [pM.length_eq, sizeLine_eq]; omega
  refine wpAny_bind (wpAny_holding (PySem.W.list_sort_data (s := { s1 with heap := s1.heap.push (seqObj "list" vs.toArray 0) }) (vs := vs) (bs := M) (enc := fun z => z.1.data) (R := fun v z => v = Value.ref z.2) lst (by rw [eM]; exact each_refs M) (by
    rw [eM]
    refine each_of_mem M fun z m => ?_
    obtain ⟨as, r, ex⟩ := NkS.readsO z.1 _ (nk z (pM.mem_iff.mp m))
    refine ⟨as, Reads.keeps (fun b u e => Heap.get?_push_of_some _ (k1 b u e)) r, fun mm => ?_⟩
    obtain ⟨u, eu⟩ := ex _ mm
    have := Heap.lt_size (k1 _ u eu)
    exact Nat.lt_irrefl _ this) al2 st2 ml (fun z m => by have := dp z (pM.mem_iff.mp m); show A.units + 1 + 1 + z.1.data.depth < cLine; omega) fun out ol eo => ?_))
  obtain ⟨c, hc⟩ := sortedHeap_at (vs := vs) (out := out.toArray) lst
  refine wpAny_pure ⟨_, rfl, q _ s1.heap.objs.size out.toArray c M (fun b u e => ?_) g1 y1 big hc (by rw [List.toList_toArray]; exact each_refs_eq eo) pM⟩
  have q1 := k1 b u e
  have lt := Heap.lt_size q1
  show (sortedHeap (s1.heap.push (seqObj "list" vs.toArray 0)) s1.heap.objs.size vs out.toArray).get? b = some u
  rw [sortedHeap_old (Nat.ne_of_lt lt) (by rw [size_push']; exact Nat.lt_succ_of_lt lt)]
  exact Heap.get?_push_of_some _ q1
end
def snTok (w : World) (a : Addr) (L : List (NK × Addr)) : Heap → Prop := fun h => ∃ (es : Array (Int × Value)) (ep : Nat) (t : SetTable), (∃ o, h.get? a = some o ∧ o.ExactSet ∧ o.data = .set es ep t) ∧ es.toList = rwN w L ∧ TabOk t (L.map (hsN w)) ∧ (L.map (·.1)).Nodup ∧ t.plain = true ∧
  (w.params.followText "set-order" = true ∨ t.led = true) ∧ L.length * 5 < t.mask * 3 ∧ L.length < 64
def snO (w : World) (a : Addr) (L : List (NK × Addr)) : HO := .ext (snTok w a L)
theorem snO_new {P : Program} {w w' : World} {H : Hp} {h : Heap} {a : Addr} {L : List (NK × Addr)} (q : snTok w a L h) : ObjOk P w' H h a (snO w a L) := by
  have ⟨_, _, _, ⟨o, e, _⟩, _⟩ := q
  refine ⟨q, ⟨o, e⟩, fun h1 h2 ⟨es, ep, t, ⟨o', e', r⟩, z⟩ k => ⟨es, ep, t, ⟨o', k o' e', r⟩, z⟩⟩
/-- a member: known as data, a tuple, not too deep, no text -/
structure MemN (K : PySem.W.Frag) (H : Hp) (z : NK × Addr) : Prop where
  dx : Dx K H (.ref z.2) z.1.data
  dp : z.1.depth ≤ 8
  tx : noTx z.1 = true
section
variable {X : Cx}
theorem MemN.kn {pins : List (Addr × Obj)} {σ : L2.St} {H : Hp} {s : Shared} {z : NK × Addr} (I : L2.Inv X pins σ H s) (m : MemN X.K H z) : NkS s.heap z.1 (.ref z.2) ∧ KN s.heap z.1 z.2 :=
  have q := nkS_of I z.1 _ _ m.dx rfl
  ⟨q, NkS.is z.1 _ q, m.dp, m.tx⟩
theorem refs_vals : ∀ {zs : List (NK × Addr)} {us : List Value}, Vals (zs.map fun z => V.ref z.2) us → us = zs.map fun z => Value.ref z.2
  | [], _, .nil => rfl
  | z :: zs, _, .cons r t => by
    cases r
    rw [refs_vals t]
    rfl
theorem vals_refsN : ∀ zs : List (NK × Addr), Vals (zs.map fun z => V.ref z.2) (zs.map fun z => Value.ref z.2)
  | [] => .nil
  | z :: zs => .cons rfl (vals_refsN zs)
def rSetN (w : World) (K : PySem.W.Frag) : List V → Hp → VK → Prop := fun xs H Q => ∃ (l : Addr) (zs : List (NK × Addr)), xs = [.ref l] ∧ SqL K H l (zs.map fun z => .ref z.2) ∧ (∀ z ∈ zs, MemN K H z) ∧ zs.length < 64 ∧
  ∀ a L, H a = none → (∀ z ∈ L, z ∈ zs) → (∀ z ∈ zs, z.1 ∈ L.map (·.1)) → (L.map (·.1)).Nodup → Q (.ref a) (upd H a (snO w a L))
theorem cr_setN {w : World} (hw : X.w = w) (hc : X.calm = true) (hu : X.A.units + 64 < cLine) : CallR X (.type "set") (rSetN w X.K) := fun pins s σ H xs us Q I r h => by
  obtain ⟨l, zs, rfl, hl, mem, fw, q⟩ := h
  rw [Vals.ref1 r]
  obtain ⟨its, rv, pl, _⟩ := I.list hl
  refine sn_call (P := X.prog) (w := X.w) zs (I.ok.hd hc) pl.isList (by simpa using refs_vals rv) (fun z m => ((mem z m).kn I).2) fw (by omega) fun h' tk es ep t L Z Hs k => ?_
  have tok : snTok w s.heap.objs.size L h' := by
    rw [← hw]
    exact ⟨es, ep, t, Z.obj, Z.rw_, Z.tb, Z.nd, Z.pl, Z.ld, Z.rm, Z.fw⟩
  refine ⟨.ref s.heap.objs.size, upd H s.heap.objs.size (snO w s.heap.objs.size L), I.laid (t' := tk) (o := snO w s.heap.objs.size L) k (Nat.le_refl _) (snO_new (P := X.prog) (w' := X.w) tok), rfl, q _ L (I.hok.fresh (Nat.le_refl _)) (fun z m => List.mem_of_mem_take (Hs.sub z m)) (fun z m => Hs.all z (by rw [List.take_length]; exact m)) Z.nd⟩
def rSrtN (w : World) (K : PySem.W.Frag) : List V → Hp → VK → Prop := fun xs H Q => ∃ (a : Addr) (L : List (NK × Addr)), xs = [.ref a] ∧ H a = some (snO w a L) ∧ (∀ z ∈ L, MemN K H z) ∧ PySem.W.AllAlike (L.map fun z => z.1.data) ∧ PySem.W.Sortable (L.map fun z => z.1.data) ∧ (∀ z ∈ L, z.1.data.depth ≤ 62) ∧
  ∀ p M, M.Perm L → H p = none → Q (.ref p) (upd H p (.lst ((srtN M).map fun z => .ref z.2)))
theorem cr_srtN {w : World} (hw : X.w = w) (hc : X.calm = true) (hu : X.A.units + 70 < cLine) : CallR X (.builtin "sorted") (rSrtN w X.K) := fun pins s σ H xs us Q I r h => by
  obtain ⟨a, L, rfl, ha, mem, al, st, dp, q⟩ := h
  rw [Vals.ref1 r]
  obtain ⟨⟨es, ep, t, z1, z2, z3, z4, z5, z6, z7, z8⟩, _⟩ := (show ObjOk X.prog X.w H s.heap a (.ext (snTok w a L)) from I.hok a _ ha)
  rw [← hw] at z2 z3 z6
  have Z : SetN X.prog X.w s.heap a es ep t L := ⟨z1, z2, z3, z4, fun z m => ((mem z m).kn I).2, z5, z6, z7, z8⟩
  refine sn_sorted Z (I.ok.hd hc) hu (fun z m => ((mem z m).kn I).1) al st dp fun s2 p out c M k g o big hp eo pM => ?_
  have ln : ((srtN M).map fun z => V.ref z.2).length ≤ sizeLine := by
    rw [List.length_map]
    unfold srtN
    rw [List.length_mergeSort, pM.length_eq, sizeLine_eq]
    omega
  have hn : H p = none := I.hok.fresh big
  have rv : Vals ((srtN M).map fun z => V.ref z.2) out.toList := by rw [eo]; exact vals_refsN _
  have J : Inv X pins σ (upd H p (.lst ((srtN M).map fun z => V.ref z.2))) { s with heap := s2.heap, gens := s2.gens, drawn := s2.drawn, toks := s2.toks } :=
    I.call (ch := []) (Un.laid k big hn) (I.hok.laid k big ⟨ln, out.toList, c, rv, hp⟩) (by rw [g]; exact I.bare) (fun _ z => nomatch z)
  have e : s2 = { s with heap := s2.heap, gens := s2.gens, drawn := s2.drawn, toks := s2.toks } := by
    cases s2
    cases s
    cases o
    rfl
  rw [e]
  exact ⟨.ref p, _, J, rfl, q p M pM hn⟩
end
def dedN (ks : List NK) : List NK := ks.foldl (fun L k => if k ∈ L then L else L ++ [k]) []
theorem dedN_mem : ∀ (ks L : List NK) (k : NK), k ∈ ks.foldl (fun L k => if k ∈ L then L else L ++ [k]) L ↔ k ∈ L ∨ k ∈ ks
  | [], L, k => by simp
  | x :: ks, L, k => by
    rw [List.foldl_cons, dedN_mem ks]
    by_cases h : x ∈ L
    · rw [if_pos h, List.mem_cons]
      exact ⟨fun q => q.elim .inl fun q => .inr (.inr q), fun q => q.elim .inl fun q => q.elim (fun q => .inl (q ▸ h)) .inr⟩
    · rw [if_neg h, List.mem_append, List.mem_singleton, List.mem_cons]
      exact ⟨fun q => q.elim (fun q => q.elim .inl fun q => .inr (.inl q)) fun q => .inr (.inr q), fun q => q.elim (fun q => .inl (.inl q)) fun q => q.elim (fun q => .inl (.inr q)) .inr⟩
theorem dedN_nd : ∀ (ks L : List NK), L.Nodup → (ks.foldl (fun L k => if k ∈ L then L else L ++ [k]) L).Nodup
  | [], L, h => h
  | x :: ks, L, h => by
    rw [List.foldl_cons]
    refine dedN_nd ks _ ?_
    split
    · exact h
    · rename_i n
      refine List.nodup_append.mpr ⟨h, by simp, fun a ha b hb e => ?_⟩
      rw [List.mem_singleton] at hb
      exact n (hb ▸ e ▸ ha)
def leN : NK → NK → Bool := PySem.W.dataLe false NestedKey.data
def srtsD (ks : List NK) : List D := ((dedN ks).mergeSort leN).map NestedKey.data
/-- one text of tokens, one key -/
def OneN (ks : List NK) : Prop := ∀ a ∈ ks, ∀ b ∈ ks, PySem.W.keyToks a.data = PySem.W.keyToks b.data → a = b
instance (ks : List NK) : Decidable (OneN ks) := inferInstanceAs (Decidable (∀ a ∈ ks, ∀ b ∈ ks, _ → a = b))
theorem srtN_eq {ks : List NK} {L M : List (NK × Addr)} (one : OneN ks) (pM : M.Perm L) (nd : (L.map (·.1)).Nodup) (sub : ∀ z ∈ L, z.1 ∈ ks) (all : ∀ k ∈ ks, k ∈ L.map (·.1)) : (srtN M).map (fun z => z.1.data) = srtsD ks := by
  have tot := PySem.W.sortLe_total (PyProof.Rows.listOrd PyProof.Rows.itemOrd) false (fun k : NK => PySem.W.keyToks k.data)
  have e1 : (srtN M).map (·.1) = (M.map (·.1)).mergeSort leN := List.map_mergeSort fun a _ b _ => rfl
  have p1 : (M.map (·.1)).Perm (dedN ks) := by
    refine (pM.map (·.1)).trans ((List.perm_ext_iff_of_nodup nd (dedN_nd ks [] List.nodup_nil)).mpr fun k => ?_)
    show k ∈ L.map (·.1) ↔ k ∈ List.foldl _ [] ks
    rw [dedN_mem]
    constructor
    · intro m
      obtain ⟨z, mz, rfl⟩ := List.mem_map.mp m
      exact .inr (sub z mz)
    · rintro (m | m)
      · cases m
      · exact all k m
  have inK : ∀ k, k ∈ (M.map (·.1)).mergeSort leN → k ∈ ks := fun k m => by
    have := p1.mem_iff.mp ((List.mergeSort_perm _ _).mem_iff.mp m)
    unfold dedN at this
    rw [dedN_mem] at this
    exact this.elim (fun z => nomatch z) id
  have e2 : (M.map (·.1)).mergeSort leN = (dedN ks).mergeSort leN := by
    refine List.Perm.eq_of_pairwise (le := fun a b => leN a b = true) (fun a b ma mb h1 h2 => ?_) (PySem.W.sort_pairwise tot _) (PySem.W.sort_pairwise tot _) (((List.mergeSort_perm _ _).trans p1).trans (List.mergeSort_perm _ _).symm)
    have mb' : b ∈ ks := by
      have := (List.mergeSort_perm _ _).mem_iff.mp mb
      unfold dedN at this
      rw [dedN_mem] at this
      exact this.elim (fun z => nomatch z) id
    refine one a (inK a ma) b mb' ?_
    have h1' : (!(PyProof.Rows.listOrd PyProof.Rows.itemOrd).blt (PySem.W.keyToks b.data) (PySem.W.keyToks a.data)) = true := h1
    have h2' : (!(PyProof.Rows.listOrd PyProof.Rows.itemOrd).blt (PySem.W.keyToks a.data) (PySem.W.keyToks b.data)) = true := h2
    rw [Bool.not_eq_true'] at h1' h2'
    exact (PyProof.Rows.listOrd PyProof.Rows.itemOrd).total _ _ h2' h1'
  unfold srtsD
  rw [← e2, ← e1, List.map_map]
  rfl
variable [TabC]
theorem mems_of {K : PySem.W.Frag} {F : Hp} : ∀ {ds : List D} {ks : List NK} {vs : List V}, DxAll K F vs ds → tksD ds = some ks → ks.all noTx = true → ∃ zs : List (NK × Addr), vs = zs.map (fun z => .ref z.2) ∧ zs.map (·.1) = ks ∧ (∀ z ∈ zs, MemN K F z)
  | [], ks, vs, h, e, _ => by
    cases h
    cases e
    exact ⟨[], rfl, rfl, fun _ m => nomatch m⟩
  | d :: ds, ks, vs, h, e, tx => by
    cases h with
    | cons a b =>
      unfold tksD at e
      obtain ⟨k, h1, e⟩ := Option.bind_eq_some_iff.mp e
      obtain ⟨ks', h2, rfl⟩ := Option.map_eq_some_iff.mp e
      rw [List.all_cons, Bool.and_eq_true] at tx
      obtain ⟨zs, z1, z2, z3⟩ := mems_of b h2 tx.2
      obtain ⟨w1, w2, w3⟩ := tkD_eq h1
      subst w1
      obtain ⟨p, rfl⟩ := dx_ref a w3
      refine ⟨(k, p) :: zs, by rw [z1]; rfl, by rw [List.map_cons, z2], fun z m => ?_⟩
      rcases List.mem_cons.mp m with q | q
      · rw [q]; exact ⟨a, w2, tx.1⟩
      · exact z3 z q
/-- sorted(set(e)) -/
def tSrts (K : PySem.W.Frag) (te : TE) : TE := tCB (rSrtN TabC.wld K) (tCons (tCB (rSetN TabC.wld K) (tCons te tNil)) tNil)
theorem tks_data : ∀ {ds : List D} {ks : List NK}, tksD ds = some ks → ds = ks.map NestedKey.data
  | [], ks, e => by cases e; rfl
  | d :: ds, ks, e => by
    unfold tksD at e
    obtain ⟨k, h1, e⟩ := Option.bind_eq_some_iff.mp e
    obtain ⟨ks', h2, rfl⟩ := Option.map_eq_some_iff.mp e
    rw [List.map_cons, ← tks_data h2, ← (tkD_eq h1).1]
theorem dxAll_refs {K : PySem.W.Frag} {F : Hp} : ∀ {zs : List (NK × Addr)}, (∀ z ∈ zs, MemN K F z) → DxAll K F (zs.map fun z => .ref z.2) (zs.map fun z => z.1.data)
  | [], _ => .nil
  | z :: zs, h => .cons (h z List.mem_cons_self).dx (dxAll_refs fun y m => h y (List.mem_cons_of_mem _ m))
theorem en_srts {g : Gm} {te : TE} {ρ ρ1 : Rho} {ds : List D} {ks : List NK} (h : EvD g te ρ (.list ds) ρ1) (hk : tksD ds = some ks) (tx : ks.all noTx = true) (fw : ks.length < 64) (ok : srtOk ds = true) (one : OneN ks) : EvN g (tSrts g.K te) ρ (srtsD ks) ρ1 := fun c F H σ k s Q q => by
  have kk : c.K = g.K := k.1
  obtain ⟨o1, o2, o3, _⟩ := srtOk_eq ok
  refine h c F H σ k s _ fun v F1 H1 s1 e1 x => ?_
  cases x with
  | lst hs ha =>
    rename_i a vs
    obtain ⟨zs, rfl, zk, mem⟩ := mems_of ha hk tx
    rw [kk] at hs mem
    have lz : zs.length < 64 := by rw [← zk, List.length_map] at fw; exact fw
    have up : ∀ {H' : Hp}, Same F1 H' → ∀ z ∈ zs, MemN g.K H' z := fun e z m => ⟨dpUp e (mem z m).dx, (mem z m).dp, (mem z m).tx⟩
    refine ⟨a, zs, rfl, slUp s1.fh hs, up s1.fh, lz, fun p L hp sub all nd => ?_⟩
    have s2 := s1.heap (o := snO TabC.wld p L) hp
    have dd : ∀ z ∈ L, z.1.data ∈ ds := fun z m => by
      rw [tks_data hk, ← zk]
      exact List.mem_map.mpr ⟨z.1, List.mem_map.mpr ⟨z, sub z m, rfl⟩, rfl⟩
    have dL : ∀ d ∈ L.map (fun z => z.1.data), d ∈ ds := fun d m => by
      obtain ⟨z, mz, rfl⟩ := List.mem_map.mp m
      exact dd z mz
    refine ⟨p, L, rfl, upd_same, fun z m => up s2.fh z (sub z m), fun d m d' m' => o1 d (dL d m) d' (dL d' m'), o2.imp (fun h d m => h d (dL d m)) (fun h d m => h d (dL d m)), fun z m => o3 _ (dd z m), fun p2 M pM hp2 => ?_⟩
    have sM : ∀ z ∈ srtN M, z ∈ zs := fun z m => sub z (pM.mem_iff.mp ((List.mergeSort_perm _ _).mem_iff.mp m))
    have dx := dxAll_refs (K := g.K) (F := F1) (zs := srtN M) fun z m => mem z (sM z m)
    rw [srtN_eq one pM nd (fun z m => by rw [← zk]; exact List.mem_map.mpr ⟨z, sub z m, rfl⟩) (fun k m => by
      rw [← zk] at m
      obtain ⟨z, mz, rfl⟩ := List.mem_map.mp m
      exact all z mz)] at dx
    exact q p2 _ F1 _ s2 e1 hp2 (by rw [kk]; exact dx)
end DL
namespace EV
open PySem PySem.Spec PyProof.Rows L2 DL
variable [DL.TabC]
/-- sorted(set(t)) -/
def tSrs (K : PySem.W.Frag) (te : TE) : TE := fun σ H Q => ∀ w : World, tCB (rSortedSet w) (tCons (tCB (rSetIT K w) (tCons te tNil)) tNil) σ H Q
def insD : List D → Option (List Int)
  | [] => some []
  | .int i :: r => (insD r).map (i :: ·)
  | _ => none
theorem insD_eq : ∀ {ds : List D} {ns : List Int}, insD ds = some ns → ds = ns.map .int
  | [], ns, h => by cases h; rfl
  | d :: r, ns, h => by
    cases d with
    | int i =>
      unfold insD at h
      obtain ⟨ms, hm, rfl⟩ := Option.map_eq_some_iff.mp h
      rw [insD_eq hm]
      rfl
    | _ => cases h
/-- the ascending list of them, each once, when that is what it is -/
def srsD (ds : List D) : Option (List Int) := (insD ds).bind fun ns => if ns.length < 64 ∧ (asc ns).Pairwise (· < ·) ∧ (∀ k ∈ asc ns, k ∈ ns) ∧ (∀ k ∈ ns, k ∈ asc ns) then some (asc ns) else none
/-- a key told without a step -/
inductive Kx where
  | v (j : Nat)
  | c (i : Int)
  | m (i : Int)
mutual
inductive Ex where
  | int (i : Int)
  | bl (b : Bool)
  | str (s : Str)
  | non
  | var (i : Nat)
  | op (o : Op) (a b : Ex)
  | neg (a : Ex)
  | nt (a : Ex)
  | an (a b : Ex)
  | or (a b : Ex)
  | ch (o o' : Op) (a b c : Ex)
  | isN (a : Ex)
  | notN (a : Ex)
  | ife (t : Tx) (a b : Ex)
  | tup (as : Exs)
  | lst (as : Exs)
  | sl (a : Ex) (lo hi : Px)
  | cb (f : Bf) (as : Exs)
  | isa (a : Ex) (T : String)
  | call (f : List D → Option RetV) (as : Exs)
  | callS (f : List D → List D → Option (RetV × List D)) (i : Nat) (as : Exs)
  | lc (it : Ix) (j : Nat) (t : Tx) (e : Ex)
  | lc2 (it : Ix) (i j : Nat) (t : Tx) (e : Ex)
  | callL (f : List D → List D → Option (RetV × List D)) (i j : Nat)
  | lrg (a : Ex)
  | trg (a : Ex)
  | pop (i : Nat) (a : Ex)
  | idxL (a b : Ex)
  | idxT (a b : Ex)
  | dget (i : Nat) (a : Ex)
  | din (a : Ex) (i : Nat)
  | dnin (a : Ex) (i : Nat)
  | dset (i : Nat) (a b : Ex)
  | dsp (k : Kx) (n : Int)
  | callX (f : List D → Option RetX) (as : Exs)
  | lget (i : Nat) (a : Ex)
  | revT (a : Ex)
  | srs (a : Ex)
  | revL (a : Ex)
  | sw (e : Bool) (a b : Ex)
  | dget2 (i : Nat) (a b : Ex)
  | dinD (a b : Ex)
  | dninD (a b : Ex)
  | dgetD (a b : Ex)
  | fnv (a : Addr)
  | callF (i : Nat) (tbl : List (Addr × (List D → Option RetV))) (as : Exs)
  | callE (e : Ex) (tbl : List (Addr × (List D → Option RetV))) (as : Exs)
  | isaT (a : Ex) (Ts : List String)
  | dspb (k : Kx) (b : Bool)
  | allIn (cs : Str) (a : Ex)
  | inC (n : Bool) (xs : List Str) (a : Ex)
  | isB (n b : Bool) (a : Ex)
  | callT (i : Nat) (tbl : List (Addr × (List D → Option RetV))) (as : Exs)
  | callLam (F : List (Addr × (List D → Option RetV)) → List D → Option RetV) (lf : List D → Option RetV) (as : Exs)
  | xin (n : Bool) (a : Ex) (i : Nat)
  | xget (i : Nat) (a : Ex)
  | xdc (it : Ix) (i j : Nat) (a b : Ex)
  | anyNe (i j : Nat)
  | lcc (it : Ix) (i : Nat) (it1 : Ix) (j : Nat) (e : Ex)
  | xd1 (it : Ix) (i : Nat) (a b : Ex)
  | srK (i : Nat)
  | srts (a : Ex)
  | hasX (F : List (NestedKey × D) → D → Option Bool) (i : Nat) (a : Ex)
inductive Exs where
  | nil
  | cons (a : Ex) (as : Exs)
inductive Tx where
  | te (a : Ex)
  | tb (a : Ex)
  | nt (t : Tx)
  | an (t u : Tx)
  | or (t u : Tx)
  | yes
  | lend (t : Tx)
  | tl (a : Ex)
inductive Px where
  | no
  | at (a : Ex)
inductive Ix where
  | rng1 (a : Ex)
  | rng2 (a b : Ex)
  | rng3 (a b c : Ex)
  | u (a : Ex)
  | en (a : Ex)
  | ky (i : Nat)
  | enl (a : Ex)
  | ukd (a : Ex)
  | zp (a b : Ex)
end
mutual
inductive Tg where
  | nm (i : Nat)
  | tup (n : Nat) (ts : Tgs)
inductive Tgs where
  | nil
  | cons (t : Tg) (ts : Tgs)
end
/-- an expression that may let an exception out -/
inductive RE where
  | x (f : List D → Option RetX) (as : Exs)
  | call (f : List D → Option RetV) (a : RE)
  | lst (a : RE)
  | e (e : Ex)
/-- what a try tries -/
inductive TB where
  | ret (e : RE)
  | iff (t : Tx) (a b : TB)
  | sif (t : Tx) (a b : TB)
  | set (j : Nat) (e : RE)
  | dr (e : RE)
  | sq (a b : TB)
  | nx
inductive St where
  | set (i : Nat) (e : Ex)
  | asg (e : Ex) (t : Tg)
  | seti (i : Nat) (a e : Ex)
  | app (i : Nat) (e : Ex)
  | newD (i : Nat)
  | dput (i : Nat) (a e : Ex)
  | drop (e : Ex)
  | ret (e : Ex)
  | retN
  | iff (t : Tx) (a b : St)
  | for (it : Ix) (t : Tg) (b : St)
  | wh (n : Nat) (t : Tx) (b : St)
  | brk
  | cont
  | nx
  | seq (a b : St)
  | fz (i : Nat) (s : St)
  | fzD (i : Nat) (s : St)
  | retD (i : Nat)
  | lk (i : Nat) (s : St)
  | mv (i j : Nat)
  | never
  | tryK (b : TB) (i : Nat) (S : Addr) (kd : List (Addr × Str)) (tbl : List (Addr × List Str))
  | aug (i : Nat) (e : Ex)
  | raise (C : Addr)
  | dropX (f : List D → Option RetX) (as : Exs)
  | tryC (f : List D → Option RetX) (as : Exs) (C : Addr) (i : Nat) (S : Addr) (cs : List Addr)
  | tryN (b : TB) (i : Nat) (S : Addr) (cs : List Addr) (hs : List (Addr × Hx))
  | newX (i : Nat)
  | xput (i : Nat) (a e : Ex)
  | asgX (f : List D → Option RetX) (as : Exs) (t : Tg)
def denK : Kx → TE
  | .v j => tVar j
  | .c i => tC (.int i)
  | .m i => tUn (rU fun i => .int (-i)) (tC (.int i))
/-- a[lo:hi] of a tuple or a list -/
def rSlU (K : PySem.W.Frag) : V → Option Int → Option Int → Hp → VK → Prop := fun x lo hi H Q => rSlX K x lo hi H Q ∨ rSlL K x lo hi H Q
theorem sl_u {X : Cx} : SlR X (rSlU X.K) := SlR.or sl_tupX sl_list
mutual
def denE (K : PySem.W.Frag) (E : XK) : Ex → TE
  | .int i => tC (.int i)
  | .bl b => tC (.bl b)
  | .str s => tC (.str s)
  | .non => tC .non
  | .var i => tVar i
  | .op o a b => tOp (opK K o) (denE K E a) (denE K E b)
  | .neg a => tUn (rU fun i => .int (-i)) (denE K E a)
  | .nt a => tNotV (denE K E a)
  | .an a b => tAndV (denE K E a) (denE K E b)
  | .or a b => tOrV (denE K E a) (denE K E b)
  | .ch o o' a b c => tChain (opK K o) (opK K o') (denE K E a) (denE K E b) (denE K E c)
  | .isN a => tIsN (denE K E a)
  | .notN a => tNotN (denE K E a)
  | .ife t a b => tIf (denT K E t) (denE K E a) (denE K E b)
  | .tup as => tTupX (denA K E as)
  | .lst as => tLst (denA K E as)
  | .sl a lo hi => tSl (rSlU K) (denE K E a) (denP K E lo) (denP K E hi)
  | .cb f as => tCB (bfK K f) (denA K E as)
  | .isa a T => tCB (rIsaB K) (tCons (denE K E a) (tCons (tC (.ty T)) tNil))
  | .call f as => tCall (spD (fun ds r => f ds = some r) K) [] E0 (denA K E as)
  | .callS f i as => tCall (spS (fun st ds r st' => f st ds = some (r, st')) K) [] E0 (tCons (tVar i) (denA K E as))
  | .lc it j t e => tLc (denI K E it) (gName j) (denT K E t) (denE K E e) [j]
  | .lc2 it i j t e => tLc (denI K E it) (gTup K 2 (gCons (gName i) (gCons (gName j) gNil))) (denT K E t) (denE K E e) [i, j]
  | .callL f i j => tCall (spS (fun st ds r st' => f st ds = some (r, st')) K) [] E0 (tCons (tVar i) (tCons (tVar j) tNil))
  | .lrg a => tLstRg (tRg1 (denE K E a))
  | .trg a => tTupRgX (tRg1 (denE K E a))
  | .pop i a => tBM K "list" rPopAt (tVar i) (tCons (denE K E a) tNil)
  | .idxL a b => tBM K "list" (rIndexD K) (denE K E a) (tCons (denE K E b) tNil)
  | .idxT a b => tBMX K (rTIx K) (denE K E a) (tCons (denE K E b) tNil)
  | .dget i a => tDGet (tVar i) (denE K E a)
  | .dsp k n => tDisp [(denK k, tC (.int n))]
  | .dspb k n => tDisp [(denK k, tC (.bl n))]
  | .revT a => tRevT K (denE K E a)
  | .srs a => tSrs K (denE K E a)
  | .revL a => tRevL K (denE K E a)
  | .sw e a b => tBM K "str" (rSw e) (denE K E a) (tCons (denE K E b) tNil)
  | .lget i a => tDGet (tVar i) (denE K E a)
  | .dget2 i a b => tDGet2 (tVar i) (denE K E a) (denE K E b)
  | .callX f as => tCall (spX (fun ds r => f ds = some r) K) [] E (denA K E as)
  | .din a i => tDIn (denE K E a) (tVar i)
  | .dnin a i => tDNotIn (denE K E a) (tVar i)
  | .dset i a b => tDSetd (tVar i) (denE K E a) (denE K E b)
  | .dinD a b => tDIn (denE K E a) (denE K E b)
  | .dninD a b => tDNotIn (denE K E a) (denE K E b)
  | .dgetD a b => tDGet (denE K E a) (denE K E b)
  | .fnv a => tC (.ref a)
  | .callF i tbl as => tCallF K i tbl (denA K E as)
  | .callE e tbl as => tCallEF K (denE K E e) tbl (denA K E as)
  | .isaT a Ts => tCB (rIsiT K) (tCons (denE K E a) (tCons (tTup (tysA Ts)) tNil))
  | .allIn cs a => tAllInT cs (denE K E a)
  | .inC n xs a => tInC n xs (denE K E a)
  | .isB n b a => tOp (rIsBl n) (denE K E a) (tC (.bl b))
  | .callT i tbl as => tCallTF K i tbl (denA K E as)
  | .callLam F lf as => tCallLam K F lf (denA K E as)
  | .xin n a i => tXIn K n (denE K E a) (tVar i)
  | .xget i a => tXGet K (tVar i) (denE K E a)
  | .xdc it i j a b => tXDc K (denI K E it) (gTup K 2 (gCons (gName i) (gCons (gName j) gNil))) tYes (denE K E a) (denE K E b) [i, j]
  | .anyNe i j => tAnyNe K i j
  | .xd1 it i a b => tXDc K (denI K E it) (gName i) tYes (denE K E a) (denE K E b) [i]
  | .srK i => tSrK K i
  | .srts a => tSrts K (denE K E a)
  | .hasX F i a => tCall (spHF F K) [] E0 (tCons (tVar i) (tCons (denE K E a) tNil))
  | .lcc it i it1 j e => tLc2 (denI K E it) (gName i) tYes (denI K E it1) (gName j) tYes (denE K E e) [i, j] [j]
def denA (K : PySem.W.Frag) (E : XK) : Exs → TA
  | .nil => tNil
  | .cons a as => tCons (denE K E a) (denA K E as)
def denT (K : PySem.W.Frag) (E : XK) : Tx → TT
  | .te a => tTest (denE K E a)
  | .tb a => tB (denE K E a)
  | .nt t => tNot (denT K E t)
  | .an t u => tAnd (denT K E t) (denT K E u)
  | .or t u => tOr (denT K E t) (denT K E u)
  | .yes => tYes
  | .lend t => denT K E t
  | .tl a => fun σ H Q => denE K E a σ H fun x H' => ∃ k, TruV K x H' k ∧ Q k H'
def denP (K : PySem.W.Frag) (E : XK) : Px → TO
  | .no => tNoPart
  | .at a => tPart (denE K E a)
def denI (K : PySem.W.Frag) (E : XK) : Ix → TI
  | .rng1 a => iRng1 (tCons (denE K E a) tNil)
  | .rng2 a b => iRng2 (tCons (denE K E a) (tCons (denE K E b) tNil))
  | .rng3 a b c => iRng3 (tCons (denE K E a) (tCons (denE K E b) (tCons (denE K E c) tNil)))
  | .u a => uIter K (denE K E a)
  | .en a => iEnT K (tCons (denE K E a) tNil)
  | .ky i => iKeys (tVar i)
  | .enl a => iEnL K (tCons (denE K E a) tNil)
  | .ukd a => iKeys (tNewL (denE K E a))
  | .zp a b => iZipF K (tCons (denE K E a) (tCons (denE K E b) tNil))
end
mutual
def denG (K : PySem.W.Frag) : Tg → TG
  | .nm i => gName i
  | .tup n ts => gTup K n (denGs K ts)
def denGs (K : PySem.W.Frag) : Tgs → TGs
  | .nil => gNil
  | .cons t ts => gCons (denG K t) (denGs K ts)
end
def denR (K : PySem.W.Frag) (E : XK) (ES : L2.St → XK) : RE → TE
  | .x f as => tCallS (spX (fun ds r => f ds = some r) K) ES (denA K E as)
  | .call f a => tCall (spD (fun ds r => f ds = some r) K) [] E0 (tCons (denR K E ES a) tNil)
  | .lst a => tLst (tCons (denR K E ES a) tNil)
  | .e e => denE K E e
def denB (K : PySem.W.Frag) (E : XK) (ES : L2.St → XK) : TB → TS
  | .ret e => tRet (denR K E ES e)
  | .iff t a b => tIfS (denT K E t) (denB K E ES a) (denB K E ES b)
  | .sif t a b => tSeq (tIfS (denT K E t) (denB K E ES a) tNext) (denB K E ES b)
  | .set j e => tAsg (denR K E ES e) (gName j)
  | .dr e => tDrop (denR K E ES e)
  | .sq a b => tSeq (denB K E ES a) (denB K E ES b)
  | .nx => tNext
/-- what a clause gives back -/
def denHe (K : PySem.W.Frag) (i : Nat) (a : Addr) (cls : Value) (d : Option Addr) : Hx → TE
  | .tst t => denZ K i a cls d t
  | .pick x y t => tOp (opK K .ix) (tLst (tCons (tC (.str x)) (tCons (tC (.str y)) tNil))) (tCB (bfK K .int) (tCons (denZ K i a cls d t) tNil))
  | .pair x t => tTupX (tCons (tC (.str x)) (tCons (denZ K i a cls d t) tNil))
  | .non => tC .non
  | .bl b => tC (.bl b)
  | .int n => tC (.int n)
  | .str x => tC (.str x)
def denHx (K : PySem.W.Frag) (i : Nat) (h : Hx) : Su := fun a cls d => tRet (denHe K i a cls d h)
def denS (K : PySem.W.Frag) (E : XK) : St → TS
  | .set i e => tAsg (denE K E e) (gName i)
  | .asg e t => tAsg (denE K E e) (denG K t)
  | .seti i a e => tAsg (denE K E e) (gSub (tVar i) (denE K E a) rSetL)
  | .app i e => tDrop (tBM K "list" rAppend (tVar i) (tCons (denE K E e) tNil))
  | .newD i => tAsg tDNewK (gName i)
  | .dput i a e => sDPut (tVar i) (denE K E a) (denE K E e)
  | .drop e => tDrop (denE K E e)
  | .ret e => tRet (denE K E e)
  | .retN => tRetN
  | .iff t a b => tIfS (denT K E t) (denS K E a) (denS K E b)
  | .for it t b => tFor (denI K E it) (denG K t) (denS K E b)
  | .wh _ t b => tWhile (denT K E t) (denS K E b)
  | .brk => tBreak
  | .cont => tCont
  | .nx => tNext
  | .seq a b => tSeq (denS K E a) (denS K E b)
  | .fz _ s => denS K E s
  | .fzD _ s => denS K E s
  | .retD i => tRet (tVar i)
  | .lk _ s => tLock (denS K E s)
  | .never => tNever
  | .tryK b i S kd _ => fun Dn σ H => denB K E (WE (wAs K (.ref S) i (tKind K kd i) (fun _ _ _ _ => False) Dn)) b Dn σ H
  | .mv i j => tAsg (tVar j) (gName i)
  | .aug i e => tAug i (denE K E e) (ipI fun i j => i + j)
  | .raise C => tRaiseO C E
  | .newX i => tAsg tXNew (gName i)
  | .xput i a e => sXPut K (tVar i) (denE K E a) (denE K E e)
  | .asgX f as t => tAsg (tCall (spX (fun ds r => f ds = some r) K) [] E (denA K E as)) (denG K t)
  | .dropX f as => tDrop (tCall (spX (fun ds r => f ds = some r) K) [] E (denA K E as))
  | .tryC f as C i S cs => tTryCall (fun ds r => f ds = some r) K (.ref C) i (tSuite K i S cs) (denA K E as)
  | .tryN b i _ _ hs => fun Dn σ H => denB K E (WE (wNmd K i (fun _ _ _ _ => False) Dn (hs.map fun h => (.ref h.1, denHx K i h.2)))) b Dn σ H
/-- what an expression's value is: data, an own list, a new list, a new thing of one's own -/
inductive Vl where
  | d (x : D)
  | o (i : Nat)
  | n (ds : List D)
  | w (w : Ow)
def rzV : Rz → Vl
  | .d z => .d z
  | .n zs => .n zs
def rvV : RetV → Vl
  | .dat d => .d d
  | .new w => .w w
def toA : Vl → Option DL.Arg
  | .d x => some (.d x)
  | .o i => some (.o i)
  | .n ds => some (.d (.list ds))
  | .w (.lst ds) => some (.d (.list ds))
  | .w (.lls dss) => some (.d (.list (dss.map .list)))
  | .w (.dK kvs) => some (.d (.dict (kvE kvs)))
  | .w (.dF _) => none
  | .w (.dT _) => none
def toD : Vl → Option D
  | .d x => some x
  | .o _ => none
  | .n ds => some (.list ds)
  | .w (.lst ds) => some (.list ds)
  | .w (.lls dss) => some (.list (dss.map .list))
  | .w (.dK kvs) => some (.dict (kvE kvs))
  | .w (.dF _) => none
  | .w (.dT _) => none
def ownL (ρ : Rho) (i : Nat) : Option (List D) := match ρ[i]? with
  | some (.own (.lst ds)) => some ds
  | _ => none
def ownD (ρ : Rho) (i : Nat) : Option (List (Key × D)) := match ρ[i]? with
  | some (.own (.dK ds)) => some ds
  | _ => none
def ownF (ρ : Rho) (i : Nat) : Option (List (Key × D)) := match ρ[i]? with
  | some (.own (.dF ds)) => some ds
  | _ => none
def ownT (ρ : Rho) (i : Nat) : Option (List (NK × D)) := match ρ[i]? with
  | some (.own (.dT ds)) => some ds
  | _ => none
def dkV : Vl → Option (List (Key × D))
  | .w (.dK kvs) => some kvs
  | _ => none
def datV (ρ : Rho) (i : Nat) : Option D := match ρ[i]? with
  | some (.dat d) => some d
  | _ => none
def noF (ρ : Rho) : Bool := ρ.all fun e => match e with
  | .own (.dF _) => false
  | _ => true
def varV (ρ : Rho) (i : Nat) : Option Vl := match ρ[i]? with
  | some (.dat d) => some (.d d)
  | some (.own (.lst _)) => some (.o i)
  | _ => none
def asI : D → Option Int
  | .int i => some i
  | _ => none
def asB : D → Option Bool
  | .bool i => some i
  | _ => none
def asRz : Rz → Option D
  | .d z => some z
  | .n _ => none
def lcGo (f : D → Rho → Option (Option D × Rho)) : List D → Rho → Option (List D × Rho)
  | [], ρ => some ([], ρ)
  | x :: xs, ρ => (f x ρ).bind fun p => (lcGo f xs p.2).bind fun q => some ((match p.1 with | some d => d :: q.1 | none => q.1), q.2)
def prGo (f : D → Rho → Option ((NK × D) × Rho)) : List D → Rho → Option (List (NK × D) × Rho)
  | [], ρ => some ([], ρ)
  | x :: xs, ρ => (f x ρ).bind fun p => (prGo f xs p.2).bind fun q => some (p.1 :: q.1, q.2)
def foldT (ps : List (NK × D)) : List (NK × D) := ps.foldl (fun kvs p => putT kvs p.1 p.2) []
def two : D → Option (D × D)
  | .tuple [a, b] => some (a, b)
  | _ => none
def idxOf (d : D) : List D → Option Nat
  | [] => none
  | z :: ds => if PyData.eqv z d then some 0 else (idxOf d ds).map (· + 1)
def idxS (x : Str) : List Str → Option Nat
  | [] => none
  | z :: ds => if z = x then some 0 else (idxS x ds).map (· + 1)
def rgD (a : Int) (n : Nat) : List D := (List.range n).map fun i => .int (a + (i : Nat))
def enD (ds : List D) : List D := (List.range ds.length).map (pairD ds)
def rdD (a : Int) (n : Nat) : List D := (List.range n).map fun i => .int (a - (i : Nat))
def evK (ρ : Rho) : Kx → Option D
  | .v j => match ρ[j]? with
    | some (.dat d) => some d
    | _ => none
  | .c i => some (.int i)
  | .m i => some (.int (-i))
def sl1 : D → Option Int → Option Int → Option Rz
  | .tuple ds, lo, hi => some (.d (.tuple (cutD ds lo hi)))
  | .list ds, lo, hi => some (.n (cutD ds lo hi))
  | _, _, _ => none
def lccGo (f : D → Rho → Option (List D × Rho)) : List D → Rho → Option (List D × Rho)
  | [], ρ => some ([], ρ)
  | x :: xs, ρ => (f x ρ).bind fun p => (lccGo f xs p.2).map fun q => (p.1 ++ q.1, q.2)
def srtsV (ds : List D) : Option (List D) := (tksD ds).bind fun ks => if ks.all noTx = true ∧ ks.length < 64 ∧ srtOk ds = true ∧ OneN ks then some (srtsD ks) else none
def anyNeD : D → D → Option Bool
  | .list ms, .tuple ds => (headsD ms).bind fun mss => (strsD ds).bind fun cs => if shW cs ∧ (∀ ws ∈ mss, shW ws) then some (mss.any (neW cs)) else none
  | _, _ => none
def zipD (xs ys : List D) : List D := List.zipWith (fun x y => .tuple [x, y]) xs ys
mutual
def evE (ps : List Nat) : Ex → Rho → Option (Vl × Rho)
  | .int i, ρ => some (.d (.int i), ρ)
  | .bl b, ρ => some (.d (.bool b), ρ)
  | .str s, ρ => some (.d (.str s), ρ)
  | .non, ρ => some (.d .none, ρ)
  | .var i, ρ => (varV ρ i).map fun v => (v, ρ)
  | .op o a b, ρ => (evE ps a ρ).bind fun p => (toA p.1).bind fun A => (evE ps b p.2).bind fun q => (toA q.1).bind fun B =>
      (A.den q.2).bind fun d => (B.den q.2).bind fun e => (op2 o d e).map fun z => (rzV z, q.2)
  | .neg a, ρ => (evE ps a ρ).bind fun p => (toA p.1).bind fun A => (A.den p.2).bind fun d => (asI d).map fun i => (.d (.int (-i)), p.2)
  | .nt a, ρ => (evE ps a ρ).bind fun p => (toD p.1).bind fun d => (asB d).map fun b => (.d (.bool (!b)), p.2)
  | .an a b, ρ => (evE ps a ρ).bind fun p => (toD p.1).bind fun d => (asB d).bind fun x =>
      if x then (evE ps b p.2).bind fun q => (toD q.1).bind fun e => (asB e).map fun y => (.d (.bool y), q.2) else some (.d (.bool false), p.2)
  | .or a b, ρ => (evE ps a ρ).bind fun p => (toD p.1).bind fun d => (asB d).bind fun x =>
      if x then some (.d (.bool true), p.2) else (evE ps b p.2).bind fun q => (toD q.1).bind fun e => (asB e).map fun y => (.d (.bool y), q.2)
  | .ch o o' a b c, ρ => (evE ps a ρ).bind fun p => (toA p.1).bind fun A => (evE ps b p.2).bind fun q => (toA q.1).bind fun B =>
      (A.den q.2).bind fun d => (B.den q.2).bind fun e => (op2 o d e).bind fun z => (asRz z).bind fun z => (asB z).bind fun x =>
      if x then (evE ps c q.2).bind fun r => (toA r.1).bind fun C => (B.den r.2).bind fun e => (C.den r.2).bind fun f => (op2 o' e f).bind fun z => (asRz z).bind fun z => (asB z).map fun y => (.d (.bool y), r.2)
      else some (.d (.bool false), q.2)
  | .isN a, ρ => (evE ps a ρ).bind fun p => (toD p.1).map fun d => (.d (.bool (!notNone d)), p.2)
  | .notN a, ρ => (evE ps a ρ).bind fun p => (toD p.1).map fun d => (.d (.bool (notNone d)), p.2)
  | .ife t a b, ρ => (evT ps t ρ).bind fun p => if p.1 then evE ps a p.2 else evE ps b p.2
  | .tup as, ρ => (evA ps as ρ).bind fun p => (datas p.1).bind fun ds => if ds.length ≤ sizeLine then some (.d (.tuple ds), p.2) else none
  | .lst as, ρ => (evA ps as ρ).bind fun p => (datas p.1).bind fun ds => if ds.length ≤ sizeLine then some (.n ds, p.2) else none
  | .sl a lo hi, ρ => (evE ps a ρ).bind fun p => (toA p.1).bind fun A => (evP ps lo p.2).bind fun l => (evP ps hi l.2).bind fun h =>
      (A.den h.2).bind fun d => (sl1 d l.1 h.1).map fun z => (rzV z, h.2)
  | .cb f as, ρ => (evA ps as ρ).bind fun p => (dens p.2 p.1).bind fun ds => (cb1 f ds).map fun z => (rzV z, p.2)
  | .isa a T, ρ => (evE ps a ρ).bind fun p => (toA p.1).bind fun A => (A.den p.2).bind fun d => (kitN d T).map fun b => (.d (.bool b), p.2)
  | .call f as, ρ => (evA ps as ρ).bind fun p => (datas p.1).bind fun ds => (f ds).map fun r => (rvV r, p.2)
  | .callS f i as, ρ => (ownL ρ i).bind fun _ => (evA ps as ρ).bind fun p => (datas p.1).bind fun ds => (ownL p.2 i).bind fun st => (f st ds).map fun r => (rvV r.1, p.2.set i (.own (.lst r.2)))
  | .lc it j t e, ρ => (evI ps it ρ).bind fun p => if p.1.length < sizeLine ∧ j ∉ ps then
      (lcGo (fun x ρ' => if j < ρ'.length then (evT ps t (ρ'.set j (.dat x))).bind fun q => if q.1 then (evE ps e q.2).bind fun r => (toD r.1).map fun d => (some d, r.2.set j .no) else some (none, q.2.set j .no) else none) p.1 (p.2.set j .no)).map fun q => (.n q.1, q.2)
      else none
  | .lc2 it i j t e, ρ => (evI ps it ρ).bind fun p => if p.1.length < sizeLine ∧ (i ∉ ps ∧ j ∉ ps) ∧ i ≠ j then
      (lcGo (fun x ρ' => if i < ρ'.length ∧ j < ρ'.length then (two x).bind fun y => (evT ps t ((ρ'.set i (.dat y.1)).set j (.dat y.2))).bind fun q => if q.1 then (evE ps e q.2).bind fun r => (toD r.1).map fun d => (some d, (r.2.set i .no).set j .no) else some (none, (q.2.set i .no).set j .no) else none) p.1 ((p.2.set i .no).set j .no)).map fun q => (.n q.1, q.2)
      else none
  | .callL f i j, ρ => (ownL ρ i).bind fun st => (ownL ρ j).bind fun ds => (f st [.list ds]).bind fun r => match r.1 with
      | .dat d => if i ≠ j ∧ ds.all isS = true ∧ r.2.all apartS = true ∧ atomD d = true then some (.d d, ρ.set i (.own (.lst r.2))) else none
      | _ => none
  | .lrg a, ρ => (evE ps a ρ).bind fun p => (toD p.1).bind fun d => (asI d).bind fun n => if 0 ≤ n ∧ n ≤ 1000000 then some (.n (rgD 0 n.toNat), p.2) else none
  | .trg a, ρ => (evE ps a ρ).bind fun p => (toD p.1).bind fun d => (asI d).bind fun n => if 0 ≤ n ∧ n ≤ 1000000 then some (.d (.tuple (rgD 0 n.toNat)), p.2) else none
  | .pop i a, ρ => (ownL ρ i).bind fun _ => (evE ps a ρ).bind fun p => (toD p.1).bind fun d => (asI d).bind fun n => (ownL p.2 i).bind fun ds =>
      if -(2 ^ 63) ≤ n ∧ n < 2 ^ 63 then (ixN ds.length n).bind fun j => (ds[j]?).map fun d => (.d d, p.2.set i (.own (.lst (ds.eraseIdx j)))) else none
  | .idxL a b, ρ => (evE ps a ρ).bind fun p => (toD p.1).bind fun d => (evE ps b p.2).bind fun q => (toA q.1).bind fun B => (B.den q.2).bind fun e =>
      match d with
      | .list ds => if SeqAt.shaped (.list ds) = true ∧ SeqAt.shaped e = true then (idxOf e ds).map fun j => (.d (.int (j : Nat)), q.2) else none
      | _ => none
  | .idxT a b, ρ => (evE ps a ρ).bind fun p => (toD p.1).bind fun d => (evE ps b p.2).bind fun q => (toA q.1).bind fun B => (B.den q.2).bind fun e =>
      match d, e with
      | .tuple ds, .str x => (strsOf ds).bind fun xs => (idxS x xs).map fun j => (.d (.int (j : Nat)), q.2)
      | _, _ => none
  | .dget i a, ρ => (ownD ρ i).bind fun _ => (evE ps a ρ).bind fun p => (toD p.1).bind fun d => (keyD d).bind fun k => (ownD p.2 i).bind fun kvs => (valD kvs k).map fun d => (.d d, p.2)
  | .din a i, ρ => (evE ps a ρ).bind fun p => (toD p.1).bind fun d => (keyD d).bind fun k => (ownD p.2 i).map fun kvs => (.d (.bool (valD kvs k).isSome), p.2)
  | .dnin a i, ρ => (evE ps a ρ).bind fun p => (toD p.1).bind fun d => (keyD d).bind fun k => (ownD p.2 i).map fun kvs => (.d (.bool (!(valD kvs k).isSome)), p.2)
  | .dset i a b, ρ => (ownD ρ i).bind fun _ => (evE ps a ρ).bind fun p => (toD p.1).bind fun d => (keyD d).bind fun k => (evE ps b p.2).bind fun q => (toD q.1).bind fun e => (ownD q.2 i).bind fun kvs =>
      if kvs.length < sizeLine then some (.d ((valD kvs k).getD e), q.2.set i (.own (.dK (if (valD kvs k).isSome then kvs else putD kvs k e)))) else none
  | .dinD a b, ρ => (evE ps a ρ).bind fun p => (toD p.1).bind fun d => (keyD d).bind fun k => (evE ps b p.2).bind fun q => (toD q.1).bind fun e => (dictOf e).map fun kvs => (.d (.bool (valD kvs k).isSome), q.2)
  | .dninD a b, ρ => (evE ps a ρ).bind fun p => (toD p.1).bind fun d => (keyD d).bind fun k => (evE ps b p.2).bind fun q => (toD q.1).bind fun e => (dictOf e).map fun kvs => (.d (.bool (!(valD kvs k).isSome)), q.2)
  | .dgetD a b, ρ => (evE ps a ρ).bind fun p => (toD p.1).bind fun e => (dictOf e).bind fun kvs => (evE ps b p.2).bind fun q => (toD q.1).bind fun d => (keyD d).bind fun k => (valD kvs k).map fun z => (.d z, q.2)
  | .fnv a, ρ => some (.d (fnD a), ρ)
  | .callF i tbl as, ρ => (datV ρ i).bind fun d => (asFn d).bind fun a => (tblF tbl a).bind fun f => (evA ps as ρ).bind fun p => (datas p.1).bind fun ds => (f ds).map fun r => (rvV r, p.2)
  | .callE e tbl as, ρ => (evE ps e ρ).bind fun q => (toD q.1).bind fun d => (asFn d).bind fun a => (tblF tbl a).bind fun f => (evA ps as q.2).bind fun p => (datas p.1).bind fun ds => (f ds).map fun r => (rvV r, p.2)
  | .isaT a Ts, ρ => if Ts.length ≤ 10 then (evE ps a ρ).bind fun p => (toA p.1).bind fun A => (A.den p.2).bind fun d => (kitM d Ts).map fun b => (.d (.bool b), p.2) else none
  | .allIn cs a, ρ => (evE ps a ρ).bind fun p => (toD p.1).bind fun d => match d with
      | .str x => some (.d (.bool (x.cps.toList.all (oneIn cs))), p.2)
      | _ => none
  | .inC n xs a, ρ => (evE ps a ρ).bind fun p => (toD p.1).bind fun d => match d with
      | .str x => some (.d (.bool (if n then !decide (x ∈ xs) else decide (x ∈ xs))), p.2)
      | _ => none
  | .isB n b a, ρ => (evE ps a ρ).bind fun p => (toD p.1).bind fun d => (asB d).map fun x => (.d (.bool (if n then !decide (x = b) else decide (x = b))), p.2)
  | .callT i tbl as, ρ => (datV ρ i).bind fun d => (asFn d).bind fun a => (tblF tbl a).bind fun f => (evA ps as ρ).bind fun p => (datas p.1).bind fun ds => (f ds).map fun r => (rvV r, p.2)
  | .callLam F lf as, ρ => (evA ps as ρ).bind fun p => (datas p.1).bind fun ds => (anyA fun a => F [(a, lf)] (ds ++ [fnD a])).map fun r => (rvV r, p.2)
  | .xin n a i, ρ => (evE ps a ρ).bind fun p => (toD p.1).bind fun d => (tkD d).bind fun k => (ownT p.2 i).map fun kvs => (.d (.bool (if n then !(valT kvs k).isSome else (valT kvs k).isSome)), p.2)
  | .xget i a, ρ => (ownT ρ i).bind fun _ => (evE ps a ρ).bind fun p => (toD p.1).bind fun d => (tkD d).bind fun k => (ownT p.2 i).bind fun kvs => (valT kvs k).map fun d => (.d d, p.2)
  | .lcc it i it1 j e, ρ => (evI ps it ρ).bind fun p => if (i ∉ ps ∧ j ∉ ps) ∧ i ≠ j then
      (lccGo (fun x ρ' => if i < ρ'.length ∧ j < ρ'.length then (evI ps it1 (ρ'.set i (.dat x))).bind fun q => (lcGo (fun y ρ2 => if j < ρ2.length then (evE ps e (ρ2.set j (.dat y))).bind fun r => (toD r.1).map fun d => (some d, r.2.set j .no) else none) q.1 (q.2.set j .no)).map fun r => (r.1, (r.2.set i .no).set j .no) else none) p.1 ((p.2.set i .no).set j .no)).bind fun r => if r.1.length < sizeLine then some (.n r.1, r.2) else none
      else none
  | .anyNe i j, ρ => (datV ρ i).bind fun d => (datV ρ j).bind fun e => (anyNeD d e).map fun b => (.d (.bool b), ρ)
  | .xd1 it i a b, ρ => (evI ps it ρ).bind fun p => if p.1.length < sizeLine ∧ i ∉ ps then
      (prGo (fun x ρ' => if i < ρ'.length then (evE ps a (ρ'.set i (.dat x))).bind fun q => (toD q.1).bind fun d => (tkD d).bind fun k => (evE ps b q.2).bind fun r => (toD r.1).map fun e => ((k, e), r.2.set i .no) else none) p.1 (p.2.set i .no)).map fun q => (.w (.dT (foldT q.1)), q.2)
      else none
  | .srK i, ρ => (ownT ρ i).bind fun kvs => if srtOk (kvs.map fun z => z.1.data) = true then some (.n (sortedD (kvs.map fun z => z.1.data)), ρ) else none
  | .srts a, ρ => (evE ps a ρ).bind fun p => (toD p.1).bind fun d => match d with
      | .list ds => (srtsV ds).map fun zs => (.n zs, p.2)
      | _ => none
  | .hasX F i a, ρ => (ownT ρ i).bind fun _ => (evE ps a ρ).bind fun p => (toD p.1).bind fun d => (ownT p.2 i).bind fun kvs => (F kvs d).map fun b => (.d (.bool b), p.2)
  | .xdc it i j a b, ρ => (evI ps it ρ).bind fun p => if p.1.length < sizeLine ∧ (i ∉ ps ∧ j ∉ ps) ∧ i ≠ j then
      (prGo (fun x ρ' => if i < ρ'.length ∧ j < ρ'.length then (two x).bind fun y => (evE ps a ((ρ'.set i (.dat y.1)).set j (.dat y.2))).bind fun q => (toD q.1).bind fun d => (tkD d).bind fun k => (evE ps b q.2).bind fun r => (toD r.1).map fun e => ((k, e), (r.2.set i .no).set j .no) else none) p.1 ((p.2.set i .no).set j .no)).map fun q => (.w (.dT (foldT q.1)), q.2)
      else none
  | .dspb k n, ρ => (evK ρ k).bind fun d => (keyD d).map fun q => (.w (.dK [(q, .bool n)]), ρ)
  | .dsp k n, ρ => (evK ρ k).bind fun d => (keyD d).map fun q => (.w (.dK [(q, .int n)]), ρ)
  | .srs a, ρ => (evE ps a ρ).bind fun p => (toD p.1).bind fun d => match d with
      | .tuple ds => (srsD ds).map fun zs => (.n (zs.map .int), p.2)
      | _ => none
  | .revT a, ρ => (evE ps a ρ).bind fun p => (toD p.1).bind fun d => match d with
      | .tuple ds => some (.d (.tuple ds.reverse), p.2)
      | _ => none
  | .revL a, ρ => (evE ps a ρ).bind fun p => (toA p.1).bind fun A => (A.den p.2).bind fun d => match d with
      | .list ds => some (.n ds.reverse, p.2)
      | _ => none
  | .sw e a b, ρ => (evE ps a ρ).bind fun p => (toD p.1).bind fun d => (evE ps b p.2).bind fun q => (toD q.1).bind fun x => match d, x with
      | .str y, .str z => some (.d (.bool (if e then Txt.endswith y z else Txt.startswith y z)), q.2)
      | _, _ => none
  | .lget i a, ρ => (ownF ρ i).bind fun _ => (evE ps a ρ).bind fun p => (toD p.1).bind fun d => (keyD d).bind fun k => (ownF p.2 i).bind fun kvs => (valD kvs k).map fun d => (.d d, p.2)
  | .dget2 i a b, ρ => (ownD ρ i).bind fun _ => (evE ps a ρ).bind fun p => (toD p.1).bind fun d => (keyD d).bind fun k => (evE ps b p.2).bind fun q => (toD q.1).bind fun z => (ownD q.2 i).map fun kvs => (.d ((valD kvs k).getD z), q.2)
  | .callX f as, ρ => (evA ps as ρ).bind fun p => (datas p.1).bind fun ds => (f ds).bind fun r => match r with
      | .ok (.dat d) => some (.d d, p.2)
      | _ => none
def evA (ps : List Nat) : Exs → Rho → Option (List DL.Arg × Rho)
  | .nil, ρ => some ([], ρ)
  | .cons a as, ρ => (evE ps a ρ).bind fun p => (toA p.1).bind fun A => (evA ps as p.2).map fun q => (A :: q.1, q.2)
def evT (ps : List Nat) : Tx → Rho → Option (Bool × Rho)
  | .te a, ρ => (evE ps a ρ).bind fun p => (toD p.1).bind fun d => (asB d).map fun b => (b, p.2)
  | .tb a, ρ => (evE ps a ρ).bind fun p => (toD p.1).bind fun d => (asB d).map fun b => (b, p.2)
  | .nt t, ρ => (evT ps t ρ).map fun p => (!p.1, p.2)
  | .an t u, ρ => (evT ps t ρ).bind fun p => if p.1 then evT ps u p.2 else some (false, p.2)
  | .or t u, ρ => (evT ps t ρ).bind fun p => if p.1 then some (true, p.2) else evT ps u p.2
  | .yes, ρ => some (true, ρ)
  | .lend t, ρ => (evT ps t (ρ.map lentE)).map fun p => (p.1, ρ)
  | .tl a, ρ => (evE ps a ρ).bind fun p => (toA p.1).bind fun A => (A.den p.2).bind fun d => match d with
      | .list ds => some (!ds.isEmpty, p.2)
      | _ => none
def evP (ps : List Nat) : Px → Rho → Option (Option Int × Rho)
  | .no, ρ => some (none, ρ)
  | .at a, ρ => (evE ps a ρ).bind fun p => (toD p.1).bind fun d => (asI d).map fun i => (some i, p.2)
def evI (ps : List Nat) : Ix → Rho → Option (List D × Rho)
  | .rng1 a, ρ => (evE ps a ρ).bind fun p => (toD p.1).bind fun d => (asI d).bind fun n => if -(2 ^ 62) ≤ n ∧ n < 2 ^ 62 then some (rgD 0 n.toNat, p.2) else none
  | .rng2 a b, ρ => (evE ps a ρ).bind fun p => (toD p.1).bind fun d => (asI d).bind fun m => (evE ps b p.2).bind fun q => (toD q.1).bind fun e => (asI e).bind fun n =>
      if (-(2 ^ 62) ≤ m ∧ m < 2 ^ 62) ∧ -(2 ^ 62) ≤ n ∧ n < 2 ^ 62 then some (rgD m (n - m).toNat, q.2) else none
  | .rng3 a b c, ρ => (evE ps a ρ).bind fun p => (toD p.1).bind fun d => (asI d).bind fun m => (evE ps b p.2).bind fun q => (toD q.1).bind fun e => (asI e).bind fun n => (evE ps c q.2).bind fun r => (toD r.1).bind fun f => (asI f).bind fun o =>
      if o = -1 ∧ (-(2 ^ 62) ≤ m ∧ m < 2 ^ 62) ∧ -(2 ^ 62) ≤ n ∧ n < 2 ^ 62 then some (rdD m (m - n).toNat, r.2) else none
  | .u a, ρ => (evE ps a ρ).bind fun p => (toD p.1).bind fun d => match d with
      | .list ds => some (ds, p.2)
      | .tuple ds => some (ds, p.2)
      | _ => none
  | .en a, ρ => (evE ps a ρ).bind fun p => (toD p.1).bind fun d => match d with
      | .tuple ds => some (enD ds, p.2)
      | _ => none
  | .ky i, ρ => (ownF ρ i).map fun kvs => (kvs.map fun p => keyOf p.1, ρ)
  | .enl a, ρ => (evE ps a ρ).bind fun p => (toD p.1).bind fun d => match d with
      | .list ds => some (enD ds, p.2)
      | _ => none
  | .ukd a, ρ => (evE ps a ρ).bind fun p => (dkV p.1).map fun kvs => (kvs.map fun q => keyOf q.1, p.2)
  | .zp a b, ρ => (evE ps a ρ).bind fun p => (toD p.1).bind fun d => (evE ps b p.2).bind fun q => (toD q.1).bind fun e => match d, e with
      | .tuple xs, .tuple ys => some (zipD xs ys, q.2)
      | _, _ => none
end
mutual
def setG (ps : List Nat) : Tg → D → Rho → Option Rho
  | .nm i, d, ρ => if i < ρ.length ∧ i ∉ ps then some (ρ.set i (.dat d)) else none
  | .tup n ts, .tuple ds, ρ => if ds.length = n then setGs ps ts ds ρ else none
  | .tup _ _, _, _ => none
def setGs (ps : List Nat) : Tgs → List D → Rho → Option Rho
  | .nil, [], ρ => some ρ
  | .cons t ts, d :: ds, ρ => (setG ps t d ρ).bind fun ρ1 => setGs ps ts ds ρ1
  | _, _, _ => none
end
def forGo (f : D → Rho → Option Out) : List D → Rho → Option Out
  | [], ρ => some (.nx ρ)
  | x :: xs, ρ => (f x ρ).bind fun o => match o with
    | .nx ρ1 => forGo f xs ρ1
    | .ct ρ1 => forGo f xs ρ1
    | .bk ρ1 => some (.nx ρ1)
    | .rt ρ1 r => some (.rt ρ1 r)
    | .ex C ρ1 => some (.ex C ρ1)
def whGo (t : Rho → Option (Bool × Rho)) (f : Rho → Option Out) : Nat → Rho → Option Out
  | 0, _ => none
  | n + 1, ρ => (t ρ).bind fun p => if p.1 then (f p.2).bind fun o => match o with
    | .nx ρ1 => whGo t f n ρ1
    | .ct ρ1 => whGo t f n ρ1
    | .bk ρ1 => some (.nx ρ1)
    | .rt ρ1 r => some (.rt ρ1 r)
    | .ex C ρ1 => some (.ex C ρ1)
    else some (.nx p.2)
def setV (ps : List Nat) (ρ : Rho) (i : Nat) : Vl → Option Out
  | .d x => if i < ρ.length ∧ i ∉ ps then some (.nx (ρ.set i (.dat x))) else none
  | .n ds => if i < ρ.length ∧ i ∉ ps then some (.nx (ρ.set i (.own (.lst ds)))) else none
  | .w w => if i < ρ.length ∧ i ∉ ps then some (.nx (ρ.set i (.own w))) else none
  | .o _ => none
def retO (ps : List Nat) (ρ : Rho) : Vl → Option Out
  | .d x => some (.rt ρ (.dat x))
  | .n ds => some (.rt ρ (.new (.lst ds)))
  | .w w => some (.rt ρ (.new w))
  | .o i => (ownL ρ i).bind fun ds => if i ∉ ps then some (.rt (ρ.set i .no) (.new (.lst ds))) else none
def evR (ps : List Nat) : RE → Rho → Option ((Vl × Rho) ⊕ (Addr × Rho))
  | .x f as, ρ => (evA ps as ρ).bind fun p => (datas p.1).bind fun ds => (f ds).bind fun r => match r with
      | .ok (.dat d) => some (.inl (.d d, p.2))
      | .exc C => some (.inr (C, p.2))
      | _ => none
  | .call f a, ρ => (evR ps a ρ).bind fun r => match r with
      | .inl p => (toA p.1).bind fun A => (datas [A]).bind fun ds => (f ds).map fun r => .inl (rvV r, p.2)
      | .inr q => some (.inr q)
  | .lst a, ρ => (evR ps a ρ).bind fun r => match r with
      | .inl p => (toA p.1).bind fun A => (datas [A]).bind fun ds => if ds.length ≤ sizeLine then some (.inl (.n ds, p.2)) else none
      | .inr q => some (.inr q)
  | .e e, ρ => (evE ps e ρ).map .inl
def evB (ps : List Nat) : TB → Rho → Option Out
  | .ret e, ρ => (evR ps e ρ).bind fun r => match r with
      | .inl p => retO ps p.2 p.1
      | .inr q => some (.ex q.1 q.2)
  | .iff t a b, ρ => (evT ps t ρ).bind fun p => if p.1 then evB ps a p.2 else evB ps b p.2
  | .sif t a b, ρ => (evT ps t ρ).bind fun p => if p.1 then (evB ps a p.2).bind fun o => (match o with
      | .nx ρ1 => evB ps b ρ1
      | o => some o) else evB ps b p.2
  | .set j e, ρ => (evR ps e ρ).bind fun r => match r with
      | .inl p => setV ps p.2 j p.1
      | .inr q => some (.ex q.1 q.2)
  | .dr e, ρ => (evR ps e ρ).bind fun r => match r with
      | .inl p => (toD p.1).map fun _ => .nx p.2
      | .inr q => some (.ex q.1 q.2)
  | .sq a b, ρ => (evB ps a ρ).bind fun o => match o with
      | .nx ρ1 => evB ps b ρ1
      | o => some o
  | .nx, ρ => some (.nx ρ)
def tblN (tbl : List (Addr × List Str)) (C : Addr) : Option (List Str) := (tbl.find? fun q => decide (q.1 = C)).map (·.2)
def asgV (ps : List Nat) (ρ : Rho) : Tg → Vl → Option Out
  | .nm i, v => setV ps ρ i v
  | .tup n ts, .d d => (setG ps (.tup n ts) d ρ).map .nx
  | _, _ => none
def exS (ps : List Nat) : St → Rho → Option Out
  | .set i e, ρ => (evE ps e ρ).bind fun p => setV ps p.2 i p.1
  | .asg e t, ρ => (evE ps e ρ).bind fun p => (toD p.1).bind fun d => (setG ps t d p.2).map .nx
  | .seti i a e, ρ => (evE ps e ρ).bind fun p => (toD p.1).bind fun d => (ownL p.2 i).bind fun _ => (evE ps a p.2).bind fun q => (toD q.1).bind fun x => (asI x).bind fun n => (ownL q.2 i).bind fun ds =>
      (ixN ds.length n).map fun j => .nx (q.2.set i (.own (.lst (ds.set j d))))
  | .app i e, ρ => (ownL ρ i).bind fun _ => (evE ps e ρ).bind fun p => (toD p.1).bind fun d => (ownL p.2 i).bind fun ds => if ds.length < sizeLine then some (.nx (p.2.set i (.own (.lst (ds ++ [d]))))) else none
  | .newD i, ρ => if i < ρ.length ∧ i ∉ ps then some (.nx (ρ.set i (.own (.dK [])))) else none
  | .dput i a e, ρ => (evE ps e ρ).bind fun p => (toD p.1).bind fun d => (ownD p.2 i).bind fun _ => (evE ps a p.2).bind fun q => (toD q.1).bind fun x => (keyD x).bind fun k => (ownD q.2 i).bind fun kvs =>
      if kvs.length < sizeLine then some (.nx (q.2.set i (.own (.dK (putD kvs k d))))) else none
  | .drop e, ρ => (evE ps e ρ).bind fun p => (toD p.1).map fun _ => .nx p.2
  | .ret e, ρ => (evE ps e ρ).bind fun p => retO ps p.2 p.1
  | .retN, ρ => some (.rt ρ (.dat .none))
  | .iff t a b, ρ => (evT ps t ρ).bind fun p => if p.1 then exS ps a p.2 else exS ps b p.2
  | .for it t b, ρ => (evI ps it ρ).bind fun p => forGo (fun x ρ' => (setG ps t x ρ').bind fun ρ1 => exS ps b ρ1) p.1 p.2
  | .wh n t b, ρ => whGo (fun ρ' => evT ps t ρ') (fun ρ' => exS ps b ρ') n ρ
  | .brk, ρ => some (.bk ρ)
  | .cont, ρ => some (.ct ρ)
  | .nx, ρ => some (.nx ρ)
  | .seq a b, ρ => (exS ps a ρ).bind fun o => match o with
      | .nx ρ1 => exS ps b ρ1
      | o => some o
  | .fz i s, ρ => (match ρ[i]? with
      | some (.own (.lst ds)) => if i ∈ ps then none else exS ps s (ρ.set i (.dat (.list ds)))
      | _ => exS ps s ρ)
  | .retD i, ρ => (ownD ρ i).bind fun kvs => if i ∈ ps then none else some (.rt (ρ.set i .no) (.new (.dK kvs)))
  | .fzD i s, ρ => (match ρ[i]? with
      | some (.own (.dK kvs)) => if i ∈ ps then none else exS ps s (ρ.set i (.dat (.dict (kvE kvs))))
      | _ => exS ps s ρ)
  | .lk i s, ρ => (ownD ρ i).bind fun kvs => if i ∈ ps then none else (exS (i :: ps) s (ρ.set i (.own (.dF kvs)))).bind fun o => match o with
      | .nx ρ' => (ownF ρ' i).bind fun kvs' => if noF (ρ'.set i .no) = true then some (.nx (ρ'.set i (.own (.dK kvs')))) else none
      | _ => none
  | .never, _ => none
  | .tryK b i _ _ tbl, ρ => (evB ps b ρ).bind fun o => match o with
      | .rt ρ' r => some (.rt ρ' r)
      | .ex C ρ' => (tblN tbl C).bind fun ws => if i < ρ'.length then some (.rt ρ' (.new (.lst (ws.map .str)))) else none
      | _ => none
  | .mv i j, ρ => (ownD ρ j).bind fun kvs => if i < ρ.length ∧ i ∉ ps ∧ j ∉ ps then some (.nx ((ρ.set j .no).set i (.own (.dK kvs)))) else none
  | .aug i e, ρ => (match ρ[i]? with
      | some (.dat d) => some d
      | _ => none).bind fun d => (asI d).bind fun m => (evE ps e ρ).bind fun p => (toD p.1).bind fun d => (asI d).bind fun n => if i < p.2.length ∧ i ∉ ps then some (.nx (p.2.set i (.dat (.int (m + n))))) else none
  | .raise C, ρ => some (.ex C ρ)
  | .newX i, ρ => if i < ρ.length ∧ i ∉ ps then some (.nx (ρ.set i (.own (.dT [])))) else none
  | .xput i a e, ρ => (evE ps e ρ).bind fun p => (toD p.1).bind fun d => (ownT p.2 i).bind fun _ => (evE ps a p.2).bind fun q => (toD q.1).bind fun x => (tkD x).bind fun k => (ownT q.2 i).bind fun kvs =>
      if kvs.length < sizeLine then some (.nx (q.2.set i (.own (.dT (putT kvs k d))))) else none
  | .asgX f as t, ρ => (evA ps as ρ).bind fun p => (datas p.1).bind fun ds => (f ds).bind fun r => match r with
      | .ok r => asgV ps p.2 t (rvV r)
      | .exc C => some (.ex C p.2)
  | .dropX f as, ρ => (evA ps as ρ).bind fun p => (datas p.1).bind fun ds => (f ds).bind fun r => match r with
      | .ok (.dat _) => some (.nx p.2)
      | .exc C => some (.ex C p.2)
      | _ => none
  | .tryC f as C i _ _, ρ => (evA ps as ρ).bind fun p => (datas p.1).bind fun ds => (f ds).bind fun r => match r with
      | .ok (.dat _) => some (.nx p.2)
      | .exc C' => if C' = C ∧ i < p.2.length then some (.rt p.2 (.dat (.bool true))) else none
      | _ => none
  | .tryN b i S cs hs, ρ => (evB ps b ρ).bind fun o => match o with
      | .ex C ρ' => if C ∈ cs ∧ i < ρ'.length ∧ i ∉ ps then (evHs S C hs).map fun d => .rt (ρ'.set i .no) (.dat d) else none
      | o => some o
def hxN : Hx → List Addr
  | .tst t => tzN t
  | .pick _ _ t => tzN t
  | .pair _ t => tzN t
  | _ => []
def hxL : Hx → Bool
  | .tst t => tzL t
  | .pick _ _ t => tzL t
  | .pair _ t => tzL t
  | _ => true
/-- what a try of the text wants of the classes -/
def sideS (K : PySem.W.Frag) : St → Prop
  | .tryC _ _ C _ S cs => ExcC K C ∧ PySem.W.exmOne K (.ref C) (.ref C) = some true ∧ PySem.W.kitOne K (.ref C) (.ref S) = some true ∧ PySem.W.kitAny K (.ref C) (cs.map Value.ref) = some false ∧ cs.length ≤ sizeLine
  | .iff _ a b => sideS K a ∧ sideS K b
  | .for _ _ b => sideS K b
  | .wh _ _ b => sideS K b
  | .seq a b => sideS K a ∧ sideS K b
  | .fz _ s => sideS K s
  | .fzD _ s => sideS K s
  | .lk _ s => sideS K s
  | .tryK _ _ S kd tbl => ∀ q ∈ tbl, KindOk K S kd q.1 q.2
  | .tryN _ _ S cs hs => KsOk K S cs ∧ ∀ h ∈ hs, (∀ c ∈ h.1 :: hxN h.2, c = S ∨ c ∈ cs) ∧ hxL h.2 = true
  | _ => True
def noTry : St → Bool
  | .tryC _ _ _ _ _ _ => false
  | .iff _ a b => noTry a && noTry b
  | .for _ _ b => noTry b
  | .wh _ _ b => noTry b
  | .seq a b => noTry a && noTry b
  | .fz _ s => noTry s
  | .fzD _ s => noTry s
  | .lk _ s => noTry s
  | .tryK _ _ _ _ _ => false
  | .tryN _ _ _ _ _ => false
  | _ => true
theorem side_of {K : PySem.W.Frag} : ∀ {st : St}, noTry st = true → sideS K st
  | .tryC .., h => by simp [noTry] at h
  | .iff _ a b, h => by
    have h := Bool.and_eq_true_iff.mp h
    exact ⟨side_of h.1, side_of h.2⟩
  | .seq a b, h => by
    have h := Bool.and_eq_true_iff.mp h
    exact ⟨side_of h.1, side_of h.2⟩
  | .for _ _ b, h => side_of (st := b) h
  | .wh _ _ b, h => side_of (st := b) h
  | .fz _ s, h => side_of (st := s) h
  | .fzD _ s, h => side_of (st := s) h
  | .lk _ s, h => side_of (st := s) h
  | .mv .., _ => trivial
  | .never, _ => trivial
  | .tryK .., h => by simp [noTry] at h
  | .tryN .., h => by simp [noTry] at h
  | .aug .., _ => trivial
  | .set .., _ => trivial
  | .asg .., _ => trivial
  | .seti .., _ => trivial
  | .app .., _ => trivial
  | .newD .., _ => trivial
  | .dput .., _ => trivial
  | .drop .., _ => trivial
  | .ret .., _ => trivial
  | .retD .., _ => trivial
  | .retN, _ => trivial
  | .brk, _ => trivial
  | .cont, _ => trivial
  | .nx, _ => trivial
  | .raise .., _ => trivial
  | .newX .., _ => trivial
  | .xput .., _ => trivial
  | .asgX .., _ => trivial
  | .dropX .., _ => trivial
end EV
namespace EV
open PySem PySem.Spec PyProof.Rows L2 DL
variable [DL.TabC]
variable {K : PySem.W.Frag} {g : Gm}
def EvV (g : Gm) (te : TE) (ρ : Rho) : Vl → Rho → Prop
  | .d x, ρ' => EvD g te ρ x ρ'
  | .o i, ρ' => EvO g te ρ (.o i) ρ'
  | .n ds, ρ' => EvN g te ρ ds ρ'
  | .w w, ρ' => EvW g te ρ w ρ'
theorem toD_ok {te : TE} {ρ ρ' : Rho} {v : Vl} {d : D} (h : EvV g te ρ v ρ') (e : toD v = some d) : EvD g te ρ d ρ' := by
  cases v with
  | d x => cases e; exact h
  | o i => cases e
  | n ds => cases e; exact ed_ofN h
  | w w =>
    cases w with
    | lst ds => cases e; exact ed_ofW h
    | lls dss => cases e; exact ed_ofWl h
    | dK kvs => cases e; exact ed_ofWd h
    | dF kvs => cases e
    | dT kvs => cases e
theorem toA_ok {te : TE} {ρ ρ' : Rho} {v : Vl} {A : DL.Arg} (h : EvV g te ρ v ρ') (e : toA v = some A) : EvO g te ρ A ρ' := by
  cases v with
  | d x => cases e; exact eo_of h
  | o i => cases e; exact h
  | n ds => cases e; exact eo_of (ed_ofN h)
  | w w =>
    cases w with
    | lst ds => cases e; exact eo_of (ed_ofW h)
    | lls dss => cases e; exact eo_of (ed_ofWl h)
    | dK kvs => cases e; exact eo_of (ed_ofWd h)
    | dF kvs => cases e
    | dT kvs => cases e
theorem asI_eq {d : D} {i : Int} (h : asI d = some i) : d = .int i := by
  cases d <;> first | (cases h; rfl) | cases h
theorem asB_eq {d : D} {i : Bool} (h : asB d = some i) : d = .bool i := by
  cases d <;> first | (cases h; rfl) | cases h
theorem keyD_eq {d : D} {k : Key} (h : keyD d = some k) : d = keyOf k := by
  cases d <;> first | (cases h; rfl) | cases h
theorem asRz_eq {z : Rz} {d : D} (h : asRz z = some d) : z = .d d := by
  cases z <;> first | (cases h; rfl) | cases h
theorem ownL_eq {ρ : Rho} {i : Nat} {ds : List D} (h : ownL ρ i = some ds) : ρ[i]? = some (.own (.lst ds)) := by
  unfold ownL at h
  split at h
  · rename_i q; cases h; exact q
  · cases h
theorem ownD_eq {ρ : Rho} {i : Nat} {ds : List (Key × D)} (h : ownD ρ i = some ds) : ρ[i]? = some (.own (.dK ds)) := by
  unfold ownD at h
  split at h
  · rename_i q; cases h; exact q
  · cases h
theorem ownF_eq {ρ : Rho} {i : Nat} {ds : List (Key × D)} (h : ownF ρ i = some ds) : ρ[i]? = some (.own (.dF ds)) := by
  unfold ownF at h
  split at h
  · rename_i q; cases h; exact q
  · cases h
theorem ownT_eq {ρ : Rho} {i : Nat} {ds : List (NK × D)} (h : ownT ρ i = some ds) : ρ[i]? = some (.own (.dT ds)) := by
  unfold ownT at h
  split at h
  · rename_i q; cases h; exact q
  · cases h
theorem prGo_turns {f : D → Rho → Option ((NK × D) × Rho)} : ∀ {l : List D} {ρ ρ' : Rho} {ds : List (NK × D)}, prGo f l ρ = some (ds, ρ') →
    ∃ (E : Nat → Rho) (ks : Nat → NK) (dd : Nat → D), E 0 = ρ ∧ E l.length = ρ' ∧ ds = (List.range l.length).map (fun i => (ks i, dd i)) ∧ ∀ i, i < l.length → f (nthD l i) (E i) = some ((ks i, dd i), E (i + 1))
  | [], ρ, ρ', ds, h => by
    cases h
    exact ⟨fun _ => ρ, fun _ => .none, fun _ => .none, rfl, rfl, rfl, fun i hi => absurd hi (by simp)⟩
  | x :: xs, ρ, ρ', ds, h => by
    obtain ⟨⟨od, ρ1⟩, h1, h2⟩ := Option.bind_eq_some_iff.mp (show (f x ρ).bind _ = _ from h)
    obtain ⟨⟨es, ρ2⟩, h3, h4⟩ := Option.bind_eq_some_iff.mp h2
    obtain ⟨E, ks, dd, e0, en, ed, st⟩ := prGo_turns h3
    cases h4
    refine ⟨fun i => match i with | 0 => ρ | i + 1 => E i, fun i => match i with | 0 => od.1 | i + 1 => ks i, fun i => match i with | 0 => od.2 | i + 1 => dd i, rfl, en, ?_, ?_⟩
    · rw [List.length_cons, List.range_succ_eq_map, List.map_cons, List.map_map, ed]
      rfl
    · intro i hi
      cases i with
      | zero =>
        show f x ρ = some ((od.1, od.2), E 0)
        rw [h1, e0]
      | succ i => exact st i (by simpa using hi)
theorem foldT_dc (ks : Nat → NK) (dd : Nat → D) (n : Nat) : foldT ((List.range n).map fun i => (ks i, dd i)) = dcT ks dd n := by
  unfold foldT dcT
  rw [List.foldl_map]
theorem datV_eq {ρ : Rho} {i : Nat} {d : D} (h : datV ρ i = some d) : ρ[i]? = some (.dat d) := by
  unfold datV at h
  split at h
  · rename_i q; cases h; exact q
  · cases h
theorem noF_eq {ρ : Rho} (h : noF ρ = true) : ∀ (i : Nat) ks, ρ[i]? ≠ some (.own (.dF ks)) := fun i ks q => by
  have := List.all_eq_true.mp h _ (List.mem_of_getElem? q)
  cases this
section
variable {ta tb tc te : TE} {ρ ρ1 ρ2 ρ3 : Rho} {A B C : DL.Arg} {a b x : Bool}
theorem evV_if {t : TT} {v : Vl} (h : EvT g t ρ b ρ1) (h1 : b = true → EvV g ta ρ1 v ρ2) (h2 : b = false → EvV g tb ρ1 v ρ2) : EvV g (tIf t ta tb) ρ v ρ2 := by
  cases v with
  | d z =>
    refine fun c F H σ k s Q q => h c F H σ k s _ fun F1 H1 s1 e1 => ?_
    cases b with
    | true => exact h1 rfl c F1 H1 σ k s1 Q fun v F' H' s' e y => q v F' H' s' (e1.trans e) y
    | false => exact h2 rfl c F1 H1 σ k s1 Q fun v F' H' s' e y => q v F' H' s' (e1.trans e) y
  | o z =>
    refine fun c F H σ k s Q q => h c F H σ k s _ fun F1 H1 s1 e1 => ?_
    cases b with
    | true => exact h1 rfl c F1 H1 σ k s1 Q fun v F' H' s' e y => q v F' H' s' (e1.trans e) y
    | false => exact h2 rfl c F1 H1 σ k s1 Q fun v F' H' s' e y => q v F' H' s' (e1.trans e) y
  | n z =>
    refine fun c F H σ k s Q q => h c F H σ k s _ fun F1 H1 s1 e1 => ?_
    cases b with
    | true => exact h1 rfl c F1 H1 σ k s1 Q fun v w F' H' s' e y => q v w F' H' s' (e1.trans e) y
    | false => exact h2 rfl c F1 H1 σ k s1 Q fun v w F' H' s' e y => q v w F' H' s' (e1.trans e) y
  | w z =>
    refine fun c F H σ k s Q q => h c F H σ k s _ fun F1 H1 s1 e1 => ?_
    cases b with
    | true => exact h1 rfl c F1 H1 σ k s1 Q fun v F' H' s' e => q v F' H' s' (e1.trans e)
    | false => exact h2 rfl c F1 H1 σ k s1 Q fun v F' H' s' e => q v F' H' s' (e1.trans e)
theorem ed_andT (h1 : EvD g ta ρ (.bool true) ρ1) (h2 : EvD g tb ρ1 (.bool b) ρ2) : EvD g (tAndV ta tb) ρ (.bool b) ρ2 := fun c F H σ k s Q q => h1 c F H σ k s _ fun v F1 H1 s1 e1 y => by
  cases y
  refine ⟨true, rfl, ?_⟩
  rw [if_pos rfl]
  exact h2 c F1 H1 σ k s1 Q fun v F' H' s' e y => q v F' H' s' (e1.trans e) y
theorem ed_andF (h1 : EvD g ta ρ (.bool false) ρ1) : EvD g (tAndV ta tb) ρ (.bool false) ρ1 := fun c F H σ k s Q q => h1 c F H σ k s _ fun v F1 H1 s1 e1 y => by
  cases y
  refine ⟨false, rfl, ?_⟩
  rw [if_neg (by decide)]
  exact q _ F1 H1 s1 e1 (.bl _)
theorem ed_orF (h1 : EvD g ta ρ (.bool false) ρ1) (h2 : EvD g tb ρ1 (.bool b) ρ2) : EvD g (tOrV ta tb) ρ (.bool b) ρ2 := fun c F H σ k s Q q => h1 c F H σ k s _ fun v F1 H1 s1 e1 y => by
  cases y
  refine ⟨false, rfl, ?_⟩
  rw [if_neg (by decide)]
  exact h2 c F1 H1 σ k s1 Q fun v F' H' s' e y => q v F' H' s' (e1.trans e) y
theorem ed_orT (h1 : EvD g ta ρ (.bool true) ρ1) : EvD g (tOrV ta tb) ρ (.bool true) ρ1 := fun c F H σ k s Q q => h1 c F H σ k s _ fun v F1 H1 s1 e1 y => by
  cases y
  refine ⟨true, rfl, ?_⟩
  rw [if_pos rfl]
  exact q _ F1 H1 s1 e1 (.bl _)
theorem et_andT {t u : TT} (h1 : EvT g t ρ true ρ1) (h2 : EvT g u ρ1 b ρ2) : EvT g (tAnd t u) ρ b ρ2 := fun c F H σ k s Q q => h1 c F H σ k s _ fun F1 H1 s1 e1 => by
  rw [if_pos rfl]
  exact h2 c F1 H1 σ k s1 Q fun F' H' s' e => q F' H' s' (e1.trans e)
theorem et_andF {t u : TT} (h1 : EvT g t ρ false ρ1) : EvT g (tAnd t u) ρ false ρ1 := fun c F H σ k s Q q => h1 c F H σ k s _ fun F1 H1 s1 e1 => by
  rw [if_neg (by decide)]
  exact q F1 H1 s1 e1
theorem et_orF {t u : TT} (h1 : EvT g t ρ false ρ1) (h2 : EvT g u ρ1 b ρ2) : EvT g (tOr t u) ρ b ρ2 := fun c F H σ k s Q q => h1 c F H σ k s _ fun F1 H1 s1 e1 => by
  rw [if_neg (by decide)]
  exact h2 c F1 H1 σ k s1 Q fun F' H' s' e => q F' H' s' (e1.trans e)
theorem et_orT {t u : TT} (h1 : EvT g t ρ true ρ1) : EvT g (tOr t u) ρ true ρ1 := fun c F H σ k s Q q => h1 c F H σ k s _ fun F1 H1 s1 e1 => by
  rw [if_pos rfl]
  exact q F1 H1 s1 e1
theorem et_yes' : EvT g tYes ρ true ρ := fun c F H σ k s Q q => q F H s (Same.refl _)
theorem ed_chT {r r' : R2} {d e e2 f z : D} (ha : EvO g ta ρ A ρ1) (hb : EvO g tb ρ1 B ρ2) (hr : R2D g.K r d e (.bool true)) (hc : EvO g tc ρ2 C ρ3) (hr' : R2D g.K r' e2 f z)
    (dA : A.den ρ2 = some d) (dB : B.den ρ2 = some e) (dB2 : B.den ρ3 = some e2) (dC : C.den ρ3 = some f) : EvD g (tChain r r' ta tb tc) ρ z ρ3 := fun c F H σ k s Q q => by
  refine ha c F H σ k s _ fun x F1 H1 s1 e1 h1 => hb c F1 H1 σ k s1 _ fun y F2 H2 s2 q2 h2 => ?_
  have kk : c.K = g.K := k.1
  have o1 := Arg.opd s2 (h1.up q2) dA
  have o2 := Arg.opd s2 h2 dB
  rw [kk] at o1 o2
  refine hr F2 H2 x y _ s2.fh o1 o2 fun v F3 H3 rs => ?_
  rw [← kk] at rs
  obtain ⟨s3, e3, q3⟩ := rs.sim s2
  cases q3
  refine ⟨true, rfl, ?_⟩
  rw [if_pos rfl]
  refine hc c F3 H3 σ k s3 _ fun w F4 H4 s4 e4 h4 => ?_
  have o2' := Arg.opd s4 (h2.up (e3.trans e4)) dB2
  have o3 := Arg.opd s4 h4 dC
  rw [kk] at o2' o3
  refine hr' F4 H4 y w Q s4.fh o2' o3 fun v F5 H5 rs => ?_
  rw [← kk] at rs
  obtain ⟨s5, e5, q5⟩ := rs.sim s4
  exact q v F5 H5 s5 ((((e1.trans q2).trans e3).trans e4).trans e5) q5
theorem ed_chF {r r' : R2} {d e : D} (ha : EvO g ta ρ A ρ1) (hb : EvO g tb ρ1 B ρ2) (hr : R2D g.K r d e (.bool false)) (dA : A.den ρ2 = some d) (dB : B.den ρ2 = some e) : EvD g (tChain r r' ta tb tc) ρ (.bool false) ρ2 := fun c F H σ k s Q q => by
  refine ha c F H σ k s _ fun x F1 H1 s1 e1 h1 => hb c F1 H1 σ k s1 _ fun y F2 H2 s2 q2 h2 => ?_
  have kk : c.K = g.K := k.1
  have o1 := Arg.opd s2 (h1.up q2) dA
  have o2 := Arg.opd s2 h2 dB
  rw [kk] at o1 o2
  refine hr F2 H2 x y _ s2.fh o1 o2 fun v F3 H3 rs => ?_
  rw [← kk] at rs
  obtain ⟨s3, e3, q3⟩ := rs.sim s2
  cases q3
  refine ⟨false, rfl, ?_⟩
  rw [if_neg (by decide)]
  exact q _ F3 H3 s3 ((e1.trans q2).trans e3) (.bl _)
/-- the environment told less -/
theorem evI_wk {wi : TI} {n : Nat} {xs : Nat → D} {j : Nat} (h : EvI g wi ρ n xs ρ1) : EvI g wi ρ n xs (ρ1.set j .no) := fun c F H σ k s R q => h c F H σ k s R fun J F' H' s' e w => q J F' H' (s'.weak (by simp) fun i => by
  by_cases z : i = j
  · subst z
    right
    intro e q
    by_cases hl : i < ρ1.length
    · rw [List.getElem?_set_self hl] at q; exact (Option.some.inj q).symm
    · rw [List.getElem?_eq_none (by simp; omega)] at q; cases q
  · left
    rw [List.getElem?_set_ne (Ne.symm z)]) e w
theorem evI_congr {wi : TI} {n : Nat} {xs ys : Nat → D} (h : EvI g wi ρ n xs ρ1) (e : ∀ i, i < n → xs i = ys i) : EvI g wi ρ n ys ρ1 := fun c F H σ k s R q => h c F H σ k s R fun J F' H' s' q2 w => q J F' H' s' q2 fun F2 H2 a1 a2 => by
  obtain ⟨w1, w2, w3⟩ := w F2 H2 a1 a2
  refine ⟨w1, w2, fun i x H' hi y => ?_⟩
  obtain ⟨F3, r⟩ := w3 i x H' hi y
  exact ⟨F3, e i hi ▸ r⟩
theorem back_set2 {ρ4 : Rho} {i j : Nat} : Back [i, j] ρ4 ((ρ4.set i .no).set j .no) := by
  refine ⟨by simp, fun k m e q => ?_, fun k m => ?_⟩
  · by_cases kj : k = j
    · subst kj
      by_cases hl : k < (ρ4.set i .no).length
      · rw [List.getElem?_set_self hl] at q; exact (Option.some.inj q).symm
      · rw [List.getElem?_eq_none (by rw [List.length_set]; omega)] at q; cases q
    · rw [List.getElem?_set_ne (Ne.symm kj)] at q
      have ki : k = i := by simpa [kj] using m
      subst ki
      by_cases hl : k < ρ4.length
      · rw [List.getElem?_set_self hl] at q; exact (Option.some.inj q).symm
      · rw [List.getElem?_eq_none (by rw [List.length_set]; omega)] at q; cases q
  · have h1 : k ≠ i := fun e => m (by simp [e])
    have h2 : k ≠ j := fun e => m (by simp [e])
    rw [List.getElem?_set_ne (Ne.symm h2), List.getElem?_set_ne (Ne.symm h1)]
theorem set_no2 {ρ : Rho} {i j k : Nat} {e : Ent} (m : k ∈ [i, j]) (q : ((ρ.set i .no).set j .no)[k]? = some e) : e = .no := back_set2.2.1 k m e q
theorem tgc_two {ρ : Rho} {a b : D} {i j : Nat} (hi : i < ρ.length) (hj : j < ρ.length) (pi : i ∉ g.ps) (pj : j ∉ g.ps) : TgC g (gTup g.K 2 (gCons (gName i) (gCons (gName j) gNil))) [i, j] (.tuple [a, b]) ρ ((ρ.set i (.dat a)).set j (.dat b)) := fun c F H σ v hP kk s x Q q => by
  cases x with
  | tup hs ha =>
    rw [kk] at hs
    cases ha with
    | cons xa t =>
      cases t with
      | cons xb t =>
        cases t
        refine ⟨_, _, rfl, stUp s.fh hs.old, rfl, _, _, rfl, _, _, rfl, rfl, q _ ((s.setDat xa hi (hP i pi)).setDat xb (by rw [List.length_set]; exact hj) (hP j pj)) (by simp) fun k m => ?_⟩
        have h1 : k ≠ i := fun e => m (by simp [e])
        have h2 : k ≠ j := fun e => m (by simp [e])
        rw [List.getElem?_set_ne (Ne.symm h2), List.getElem?_set_ne (Ne.symm h1)]
theorem back_set {ρ4 : Rho} {j : Nat} (hj : j < ρ4.length ∨ True) : Back [j] ρ4 (ρ4.set j .no) := by
  refine ⟨by simp, fun i m e q => ?_, fun i m => ?_⟩
  · rw [List.mem_singleton.mp m] at q
    by_cases hl : j < ρ4.length
    · rw [List.getElem?_set_self hl] at q; exact (Option.some.inj q).symm
    · rw [List.getElem?_eq_none (by simp; omega)] at q; cases q
  · rw [List.getElem?_set_ne (fun z => m (by simp [z]))]
theorem set_no {ρ4 : Rho} {j : Nat} : ∀ e : Ent, (ρ4.set j .no)[j]? = some e → e = .no := fun e q => by
  by_cases hl : j < ρ4.length
  · rw [List.getElem?_set_self hl] at q; exact (Option.some.inj q).symm
  · rw [List.getElem?_eq_none (by simp; omega)] at q; cases q
/-- a comprehension's turns, numbered -/
theorem lcGo_turns {f : D → Rho → Option (Option D × Rho)} : ∀ {l : List D} {ρ ρ' : Rho} {ds : List D}, lcGo f l ρ = some (ds, ρ') →
    ∃ (E : Nat → Rho) (bs : Nat → Bool) (dd : Nat → D), E 0 = ρ ∧ E l.length = ρ' ∧ ds = ((List.range l.length).filter bs).map dd ∧
      ∀ i, i < l.length → f (nthD l i) (E i) = some (if bs i then some (dd i) else none, E (i + 1))
  | [], ρ, ρ', ds, h => by
    cases h
    exact ⟨fun _ => ρ, fun _ => true, fun _ => .none, rfl, rfl, rfl, fun i hi => absurd hi (by simp)⟩
  | x :: xs, ρ, ρ', ds, h => by
    obtain ⟨⟨od, ρ1⟩, h1, h2⟩ := Option.bind_eq_some_iff.mp (show (f x ρ).bind _ = _ from h)
    obtain ⟨⟨es, ρ2⟩, h3, h4⟩ := Option.bind_eq_some_iff.mp h2
    obtain ⟨E, bs, dd, e0, en, ed, st⟩ := lcGo_turns h3
    refine ⟨fun i => match i with | 0 => ρ | i + 1 => E i, fun i => match i with | 0 => od.isSome | i + 1 => bs i, fun i => match i with | 0 => od.getD .none | i + 1 => dd i, rfl, ?_, ?_, ?_⟩
    · have h4 := Option.some.inj h4
      rw [show (x :: xs).length = xs.length + 1 from rfl]
      show E xs.length = ρ'
      rw [en]
      exact (congrArg Prod.snd h4)
    · have h4 := Option.some.inj h4
      have h5 := congrArg Prod.fst h4
      simp only at h5
      rw [← h5, List.length_cons, List.range_succ_eq_map, List.filter_cons]
      cases od with
      | none =>
        simp only [Option.isSome_none, Bool.false_eq_true, if_false]
        rw [List.filter_map, List.map_map, ed]
        rfl
      | some d =>
        simp only [Option.isSome_some, if_true, List.map_cons, Option.getD_some]
        rw [List.filter_map, List.map_map, ed]
        rfl
    · intro i hi
      cases i with
      | zero =>
        show f x ρ = some (if od.isSome = true then some (od.getD .none) else none, E 0)
        rw [h1, e0]
        cases od <;> rfl
      | succ i =>
        have := st i (by simpa using hi)
        exact this
end
theorem idxOf_ok {d : D} : ∀ {ds : List D} {j : Nat}, idxOf d ds = some j → ∃ z, ds[j]? = some z ∧ PyData.eqv z d = true ∧ ∀ (m : Nat) (z' : D), m < j → ds[m]? = some z' → PyData.eqv z' d = false
  | [], _, h => by cases h
  | z :: ds, j, h => by
    unfold idxOf at h
    split at h
    · rename_i hz
      cases h
      exact ⟨z, rfl, hz, fun m z' hm => by omega⟩
    · rename_i hz
      obtain ⟨i, h1, rfl⟩ := Option.map_eq_some_iff.mp h
      obtain ⟨y, h2, h3, h4⟩ := idxOf_ok h1
      refine ⟨y, h2, h3, fun m z' hm q => ?_⟩
      cases m with
      | zero => cases (Option.some.inj q); simpa using hz
      | succ m => exact h4 m z' (by omega) q
theorem idxS_ok {x : Str} : ∀ {ds : List Str} {j : Nat}, idxS x ds = some j → ds[j]? = some x ∧ ∀ m, m < j → ds[m]? ≠ some x
  | [], _, h => by cases h
  | z :: ds, j, h => by
    unfold idxS at h
    split at h
    · rename_i hz
      cases h
      exact ⟨by rw [hz]; rfl, fun m hm => by omega⟩
    · rename_i hz
      obtain ⟨i, h1, rfl⟩ := Option.map_eq_some_iff.mp h
      obtain ⟨h2, h3⟩ := idxS_ok h1
      refine ⟨h2, fun m hm q => ?_⟩
      cases m with
      | zero => exact hz (Option.some.inj q)
      | succ m => exact h3 m (by omega) q
theorem rgD_len {a : Int} {n : Nat} : (rgD a n).length = n := by simp [rgD]
theorem rgD_at {a : Int} {n i : Nat} (h : i < n) : nthD (rgD a n) i = .int (a + (i : Nat)) := by
  unfold nthD rgD
  rw [List.getD_eq_getElem?_getD, List.getElem?_map, List.getElem?_range h]
  rfl
theorem rdD_len {a : Int} {n : Nat} : (rdD a n).length = n := by simp [rdD]
theorem rdD_at {a : Int} {n i : Nat} (h : i < n) : nthD (rdD a n) i = .int (a - (i : Nat)) := by
  unfold nthD rdD
  rw [List.getD_eq_getElem?_getD, List.getElem?_map, List.getElem?_range h]
  rfl
theorem evK_ok {ρ : Rho} {k : Kx} {d : D} (h : evK ρ k = some d) : PureE g (denK k) ρ d := by
  cases k with
  | v j =>
    change (match ρ[j]? with | some (.dat d) => some d | _ => none) = some d at h
    split at h
    · rename_i q; cases h; exact pure_var q
    · cases h
  | c i => cases h; exact pure_int
  | m i => cases h; exact pure_neg
theorem zipD_at {xs ys : List D} {i : Nat} (h : i < min xs.length ys.length) : nthD (zipD xs ys) i = .tuple [nthD xs i, nthD ys i] := by
  have h1 : i < xs.length := by omega
  have h2 : i < ys.length := by omega
  unfold nthD zipD
  simp [List.getD_eq_getElem?_getD, List.getElem?_zipWith, List.getElem?_eq_getElem h1, List.getElem?_eq_getElem h2]
theorem enD_len {ds : List D} : (enD ds).length = ds.length := by simp [enD]
theorem enD_at {ds : List D} {i : Nat} (h : i < ds.length) : nthD (enD ds) i = pairD ds i := by
  unfold nthD enD
  rw [List.getD_eq_getElem?_getD, List.getElem?_map, List.getElem?_range h]
  rfl
theorem rg_map {n : Int} : ((List.range (n - 0).toNat).map fun i => (0 : Int) + (i : Nat)).map PyData.int = rgD 0 n.toNat := by
  unfold rgD
  rw [List.map_map, Int.sub_zero]
  rfl
theorem lccGo_turns {f : D → Rho → Option (List D × Rho)} : ∀ {l : List D} {ρ ρ' : Rho} {ds : List D}, lccGo f l ρ = some (ds, ρ') →
    ∃ (E : Nat → Rho) (L : Nat → List D), E 0 = ρ ∧ E l.length = ρ' ∧ ds = (List.range l.length).flatMap L ∧ ∀ i, i < l.length → f (nthD l i) (E i) = some (L i, E (i + 1))
  | [], ρ, ρ', ds, h => by
    cases h
    exact ⟨fun _ => ρ, fun _ => [], rfl, rfl, rfl, fun i hi => absurd hi (by simp)⟩
  | x :: xs, ρ, ρ', ds, h => by
    obtain ⟨⟨od, ρ1⟩, h1, h2⟩ := Option.bind_eq_some_iff.mp (show (f x ρ).bind _ = _ from h)
    obtain ⟨⟨es, ρ2⟩, h3, h4⟩ := Option.map_eq_some_iff.mp h2
    obtain ⟨E, L, e0, en, ed, st⟩ := lccGo_turns h3
    have h5 := congrArg Prod.fst h4
    have h6 := congrArg Prod.snd h4
    simp only at h5 h6
    refine ⟨fun i => match i with | 0 => ρ | i + 1 => E i, fun i => match i with | 0 => od | i + 1 => L i, rfl, by show E xs.length = ρ'; rw [en, h6], ?_, fun i hi => ?_⟩
    · rw [← h5, ed, List.length_cons, List.range_succ_eq_map, List.flatMap_cons, List.flatMap_map]
    · cases i with
      | zero => show f x ρ = some (od, E 0); rw [e0]; exact h1
      | succ i => exact st i (by simpa using hi)
theorem flat_pre {L : Nat → List D} {n k : Nat} (h : k < n) : ((List.range k).flatMap L).length + (L k).length ≤ ((List.range n).flatMap L).length := by
  obtain ⟨r, rfl⟩ : ∃ r, n = (k + 1) + r := ⟨n - (k + 1), by omega⟩
  rw [List.range_add, List.flatMap_append, List.length_append, List.range_succ, List.flatMap_append, List.length_append]
  simp
end EV
namespace EV
open PySem PySem.Spec PyProof.Rows L2 DL
variable [DL.TabC]
variable {K : PySem.W.Frag} {g : Gm}
theorem rzV_ok {r : R2} {ta tb : TE} {ρ ρ1 ρ2 : Rho} {A B : DL.Arg} {d e : D} {z : Rz} (ha : EvO g ta ρ A ρ1) (hb : EvO g tb ρ1 B ρ2) (dA : A.den ρ2 = some d) (dB : B.den ρ2 = some e) (h : RzOk g.K r d e z) : EvV g (tOp r ta tb) ρ (rzV z) ρ2 := by
  cases z with
  | d z => exact ed_op ha hb h dA dB
  | n z => exact en_op ha hb h dA dB
theorem bnd {α β : Type} {o : Option α} {f : α → Option β} {b : β} (h : o.bind f = some b) : ∃ a, o = some a ∧ f a = some b := Option.bind_eq_some_iff.mp h
theorem mpd {α β : Type} {o : Option α} {f : α → β} {b : β} (h : o.map f = some b) : ∃ a, o = some a ∧ f a = b := Option.map_eq_some_iff.mp h
theorem two_eq {x a b : D} (h : two x = some (a, b)) : x = .tuple [a, b] := by
  unfold two at h
  split at h
  · cases h; rfl
  · cases h
mutual
theorem evE_ok : ∀ (e : Ex) (ρ : Rho) (v : Vl) (ρ' : Rho), evE g.ps e ρ = some (v, ρ') → EvV g (denE g.K g.xe e) ρ v ρ'
  | .int i, ρ, v, ρ', h => by cases h; exact ed_int
  | .bl i, ρ, v, ρ', h => by cases h; exact ed_bl
  | .str i, ρ, v, ρ', h => by cases h; exact ed_str
  | .non, ρ, v, ρ', h => by cases h; exact ed_non
  | .var i, ρ, v, ρ', h => by
    obtain ⟨w, h1, h2⟩ := mpd (show (varV ρ i).map (fun v => (v, ρ)) = some (v, ρ') from h)
    cases h2
    unfold varV at h1
    split at h1
    · rename_i q; cases h1; exact ed_var q
    · rename_i q; cases h1; exact eo_own q
    · cases h1
  | .op o a b, ρ, v, ρ', h => by
    unfold evE at h
    replace h := bnd h; obtain ⟨⟨va, ρ1⟩, h1, h⟩ := h
    replace h := bnd h; obtain ⟨A, hA, h⟩ := h
    replace h := bnd h; obtain ⟨⟨vb, ρ2⟩, h2, h⟩ := h
    replace h := bnd h; obtain ⟨B, hB, h⟩ := h
    replace h := bnd h; obtain ⟨d, dA, h⟩ := h
    replace h := bnd h; obtain ⟨e, dB, h⟩ := h
    replace h := mpd h; obtain ⟨z, hz, h⟩ := h
    cases h
    exact rzV_ok (toA_ok (evE_ok a _ _ _ h1) hA) (toA_ok (evE_ok b _ _ _ h2) hB) dA dB (op2_ok o d e z hz)
  | .neg a, ρ, v, ρ', h => by
    unfold evE at h
    replace h := bnd h; obtain ⟨⟨va, ρ1⟩, h1, h⟩ := h
    replace h := bnd h; obtain ⟨A, hA, h⟩ := h
    replace h := bnd h; obtain ⟨d, dA, h⟩ := h
    replace h := mpd h; obtain ⟨i, hi, h⟩ := h
    cases h
    cases asI_eq hi
    exact ed_un (toA_ok (evE_ok a _ _ _ h1) hA) ru_neg dA
  | .nt a, ρ, v, ρ', h => by
    unfold evE at h
    replace h := bnd h; obtain ⟨⟨va, ρ1⟩, h1, h⟩ := h
    replace h := bnd h; obtain ⟨d, hd, h⟩ := h
    replace h := mpd h; obtain ⟨i, hi, h⟩ := h
    cases h
    cases asB_eq hi
    exact ed_not (toD_ok (evE_ok a _ _ _ h1) hd)
  | .an a b, ρ, v, ρ', h => by
    unfold evE at h
    replace h := bnd h; obtain ⟨⟨va, ρ1⟩, h1, h⟩ := h
    replace h := bnd h; obtain ⟨d, hd, h⟩ := h
    replace h := bnd h; obtain ⟨x, hx, h⟩ := h
    cases asB_eq hx
    have k1 := toD_ok (evE_ok a _ _ _ h1) hd
    cases x with
    | true =>
      rw [if_pos rfl] at h
      replace h := bnd h; obtain ⟨⟨vb, ρ2⟩, h2, h⟩ := h
      replace h := bnd h; obtain ⟨e, he, h⟩ := h
      replace h := mpd h; obtain ⟨y, hy, h⟩ := h
      cases h
      cases asB_eq hy
      exact ed_andT k1 (toD_ok (evE_ok b _ _ _ h2) he)
    | false =>
      rw [if_neg (by decide)] at h
      cases h
      exact ed_andF k1
  | .or a b, ρ, v, ρ', h => by
    unfold evE at h
    replace h := bnd h; obtain ⟨⟨va, ρ1⟩, h1, h⟩ := h
    replace h := bnd h; obtain ⟨d, hd, h⟩ := h
    replace h := bnd h; obtain ⟨x, hx, h⟩ := h
    cases asB_eq hx
    have k1 := toD_ok (evE_ok a _ _ _ h1) hd
    cases x with
    | false =>
      rw [if_neg (by decide)] at h
      replace h := bnd h; obtain ⟨⟨vb, ρ2⟩, h2, h⟩ := h
      replace h := bnd h; obtain ⟨e, he, h⟩ := h
      replace h := mpd h; obtain ⟨y, hy, h⟩ := h
      cases h
      cases asB_eq hy
      exact ed_orF k1 (toD_ok (evE_ok b _ _ _ h2) he)
    | true =>
      rw [if_pos rfl] at h
      cases h
      exact ed_orT k1
  | .ch o o' a b c, ρ, v, ρ', h => by
    unfold evE at h
    replace h := bnd h; obtain ⟨⟨va, ρ1⟩, h1, h⟩ := h
    replace h := bnd h; obtain ⟨A, hA, h⟩ := h
    replace h := bnd h; obtain ⟨⟨vb, ρ2⟩, h2, h⟩ := h
    replace h := bnd h; obtain ⟨B, hB, h⟩ := h
    replace h := bnd h; obtain ⟨d, dA, h⟩ := h
    replace h := bnd h; obtain ⟨e, dB, h⟩ := h
    replace h := bnd h; obtain ⟨z, hz, h⟩ := h
    replace h := bnd h; obtain ⟨z', hz', h⟩ := h
    replace h := bnd h; obtain ⟨x, hx, h⟩ := h
    cases asRz_eq hz'
    cases asB_eq hx
    have r1 := op2_ok (K := g.K) o d e _ hz
    cases x with
    | true =>
      rw [if_pos rfl] at h
      replace h := bnd h; obtain ⟨⟨vc, ρ3⟩, h3, h⟩ := h
      replace h := bnd h; obtain ⟨C, hC, h⟩ := h
      replace h := bnd h; obtain ⟨e2, dB2, h⟩ := h
      replace h := bnd h; obtain ⟨f, dC, h⟩ := h
      replace h := bnd h; obtain ⟨y, hy, h⟩ := h
      replace h := bnd h; obtain ⟨y', hy', h⟩ := h
      replace h := mpd h; obtain ⟨w, hw, h⟩ := h
      cases h
      cases asRz_eq hy'
      cases asB_eq hw
      exact ed_chT (toA_ok (evE_ok a _ _ _ h1) hA) (toA_ok (evE_ok b _ _ _ h2) hB) r1 (toA_ok (evE_ok c _ _ _ h3) hC) (op2_ok (K := g.K) o' e2 f _ hy) dA dB dB2 dC
    | false =>
      rw [if_neg (by decide)] at h
      cases h
      exact ed_chF (toA_ok (evE_ok a _ _ _ h1) hA) (toA_ok (evE_ok b _ _ _ h2) hB) r1 dA dB
  | .isN a, ρ, v, ρ', h => by
    unfold evE at h
    replace h := bnd h; obtain ⟨⟨va, ρ1⟩, h1, h⟩ := h
    replace h := mpd h; obtain ⟨d, hd, h⟩ := h
    cases h
    exact ed_isN (toD_ok (evE_ok a _ _ _ h1) hd)
  | .notN a, ρ, v, ρ', h => by
    unfold evE at h
    replace h := bnd h; obtain ⟨⟨va, ρ1⟩, h1, h⟩ := h
    replace h := mpd h; obtain ⟨d, hd, h⟩ := h
    cases h
    exact ed_notN (toD_ok (evE_ok a _ _ _ h1) hd)
  | .ife t a b, ρ, v, ρ', h => by
    unfold evE at h
    replace h := bnd h; obtain ⟨⟨x, ρ1⟩, h1, h⟩ := h
    refine evV_if (evT_ok t _ _ _ h1) (fun hx => ?_) (fun hx => ?_)
    · simp only [hx, if_true] at h
      exact evE_ok a _ _ _ h
    · simp only [hx, Bool.false_eq_true, if_false] at h
      exact evE_ok b _ _ _ h
  | .tup as, ρ, v, ρ', h => by
    unfold evE at h
    replace h := bnd h; obtain ⟨⟨As, ρ1⟩, h1, h⟩ := h
    replace h := bnd h; obtain ⟨ds, hd, h⟩ := h
    split at h
    · cases h
      exact ed_tup (evA_ok as _ _ _ h1) hd ‹_›
    · cases h
  | .lst as, ρ, v, ρ', h => by
    unfold evE at h
    replace h := bnd h; obtain ⟨⟨As, ρ1⟩, h1, h⟩ := h
    replace h := bnd h; obtain ⟨ds, hd, h⟩ := h
    split at h
    · cases h
      exact en_lst (evA_ok as _ _ _ h1) hd ‹_›
    · cases h
  | .sl a lo hi, ρ, v, ρ', h => by
    unfold evE at h
    replace h := bnd h; obtain ⟨⟨va, ρ1⟩, h1, h⟩ := h
    replace h := bnd h; obtain ⟨A, hA, h⟩ := h
    replace h := bnd h; obtain ⟨⟨l, ρ2⟩, h2, h⟩ := h
    replace h := bnd h; obtain ⟨⟨u, ρ3⟩, h3, h⟩ := h
    replace h := bnd h; obtain ⟨d, dA, h⟩ := h
    replace h := mpd h; obtain ⟨z, hz, h⟩ := h
    cases h
    have k1 := toA_ok (evE_ok a _ _ _ h1) hA
    have k2 := evP_ok lo _ _ _ h2
    have k3 := evP_ok hi _ _ _ h3
    unfold sl1 at hz
    split at hz
    · cases hz
      exact ed_sl k1 k2 k3 (fun F H x Q f o q => .inl (rs_tup F H x Q f o q)) dA
    · cases hz
      exact en_sl k1 k2 k3 (fun F H x Q f o q => .inr (rs_list F H x Q f o q)) dA
    · cases hz
  | .cb f as, ρ, v, ρ', h => by
    unfold evE at h
    replace h := bnd h; obtain ⟨⟨As, ρ1⟩, h1, h⟩ := h
    replace h := bnd h; obtain ⟨ds, hd, h⟩ := h
    replace h := mpd h; obtain ⟨z, hz, h⟩ := h
    cases h
    have k := cb1_ok (K := g.K) f ds z hz
    cases z with
    | d z => exact ed_cb (evA_ok as _ _ _ h1) k hd
    | n z => exact en_cb (evA_ok as _ _ _ h1) k hd
  | .isa a T, ρ, v, ρ', h => by
    unfold evE at h
    replace h := bnd h; obtain ⟨⟨va, ρ1⟩, h1, h⟩ := h
    replace h := bnd h; obtain ⟨A, hA, h⟩ := h
    replace h := bnd h; obtain ⟨d, dA, h⟩ := h
    replace h := mpd h; obtain ⟨b, hb, h⟩ := h
    cases h
    exact ed_isaB (toA_ok (evE_ok a _ _ _ h1) hA) dA hb
  | .call f as, ρ, v, ρ', h => by
    unfold evE at h
    replace h := bnd h; obtain ⟨⟨As, ρ1⟩, h1, h⟩ := h
    replace h := bnd h; obtain ⟨ds, hd, h⟩ := h
    replace h := mpd h; obtain ⟨r, hr, h⟩ := h
    cases h
    cases r with
    | dat d => exact ed_call (evA_ok as _ _ _ h1) hr hd
    | new w => exact ew_call (evA_ok as _ _ _ h1) hr hd
  | .callS f i as, ρ, v, ρ', h => by
    unfold evE at h
    replace h := bnd h; obtain ⟨s0, h0, h⟩ := h
    replace h := bnd h; obtain ⟨⟨As, ρ1⟩, h1, h⟩ := h
    replace h := bnd h; obtain ⟨ds, hd, h⟩ := h
    replace h := bnd h; obtain ⟨st, hst, h⟩ := h
    replace h := mpd h; obtain ⟨⟨r, st'⟩, hr, h⟩ := h
    cases h
    have k := ea_cons (eo_own (g := g) (ownL_eq h0)) (evA_ok as _ _ _ h1)
    cases r with
    | dat d => exact ed_callS k (ownL_eq hst) hr hd
    | new w => exact ew_callS k (ownL_eq hst) hr hd
  | .lc it j t e, ρ, v, ρ', h => by
    unfold evE at h
    replace h := bnd h; obtain ⟨⟨l, ρ1⟩, h1, h⟩ := h
    split at h
    · rename_i hc
      replace h := mpd h; obtain ⟨⟨ds, ρ2⟩, h2, h⟩ := h
      cases h
      obtain ⟨E, bs, dd, e0, en, ed, st⟩ := lcGo_turns h2
      have hno : ∀ i, i ≤ l.length → ∀ e : Ent, (E i)[j]? = some e → e = .no := fun i hi => by
        cases i with
        | zero => rw [e0]; exact set_no
        | succ i =>
          have := st i (Nat.lt_of_succ_le hi)
          split at this
          case isFalse => cases this
          obtain ⟨⟨b, ρ3⟩, q1, q2⟩ := bnd this
          simp only at q2
          split at q2
          · obtain ⟨⟨w, ρ4⟩, q3, q4⟩ := bnd q2
            obtain ⟨d, q5, q6⟩ := mpd q4
            have z := congrArg Prod.snd q6
            simp only at z
            rw [← z]; exact set_no
          · have z := congrArg Prod.snd (Option.some.inj q2)
            simp only at z
            rw [← z]; exact set_no
      simp only at ed en
      show EvN g _ ρ ds ρ2
      rw [← en, ed]
      refine en_lc (vs := [j]) (ρ1 := ρ1.set j .no) (evI_wk (evI_ok it _ _ _ h1)) E bs dd e0 hc.1 (fun i m => by rw [List.mem_singleton.mp m]; exact hc.2) (fun i hi k m => by rw [List.mem_singleton.mp m]; exact hno i hi) fun i hi => ?_
      have sti := st i hi
      split at sti
      case isFalse => cases sti
      rename_i lenE
      obtain ⟨⟨b, ρ3⟩, q1, q2⟩ := bnd sti
      have kt := evT_ok t _ _ _ q1
      simp only at q2
      refine ⟨_, ρ3, tgc_name lenE hc.2 (by simp), ?_⟩
      cases b with
      | true =>
        rw [if_pos rfl] at q2
        obtain ⟨⟨w, ρ4⟩, q3, q4⟩ := bnd q2
        obtain ⟨d, q5, q6⟩ := mpd q4
        cases hb : bs i with
        | false => rw [hb] at q6; simp only [Bool.false_eq_true, if_false] at q6; cases (congrArg Prod.fst q6)
        | true =>
          rw [hb] at q6
          have z1 : some d = some (dd i) := congrArg Prod.fst q6
          have z2 : ρ4.set j .no = E (i + 1) := congrArg Prod.snd q6
          cases z1
          refine ⟨kt, fun _ => ⟨ρ4, toD_ok (evE_ok e _ _ _ q3) q5, z2 ▸ back_set (.inr trivial)⟩, fun z => nomatch z⟩
      | false =>
        rw [if_neg (by decide)] at q2
        have q2 := Option.some.inj q2
        cases hb : bs i with
        | true => rw [hb] at q2; cases (congrArg Prod.fst q2)
        | false =>
          have z2 : ρ3.set j .no = E (i + 1) := congrArg Prod.snd q2
          exact And.intro kt (And.intro (fun z => absurd z (by decide)) (fun _ => z2 ▸ back_set (.inr trivial)))
    · cases h
  | .lc2 it i j t e, ρ, v, ρ', h => by
    unfold evE at h
    replace h := bnd h; obtain ⟨⟨l, ρ1⟩, h1, h⟩ := h
    split at h
    · rename_i hc
      replace h := mpd h; obtain ⟨⟨ds, ρ2⟩, h2, h⟩ := h
      cases h
      obtain ⟨E, bs, dd, e0, en, ed, st⟩ := lcGo_turns h2
      have hno : ∀ n, n ≤ l.length → ∀ k, k ∈ [i, j] → ∀ e : Ent, (E n)[k]? = some e → e = .no := fun n hi => by
        cases n with
        | zero => rw [e0]; exact fun k m e q => set_no2 m q
        | succ n =>
          have := st n (Nat.lt_of_succ_le hi)
          split at this
          case isFalse => cases this
          obtain ⟨y, _, this⟩ := bnd this
          obtain ⟨⟨b, ρ3⟩, q1, q2⟩ := bnd this
          simp only at q2
          split at q2
          · obtain ⟨⟨w, ρ4⟩, q3, q4⟩ := bnd q2
            obtain ⟨d, q5, q6⟩ := mpd q4
            have z := congrArg Prod.snd q6
            simp only at z
            rw [← z]; exact fun k m e q => set_no2 m q
          · have z := congrArg Prod.snd (Option.some.inj q2)
            simp only at z
            rw [← z]; exact fun k m e q => set_no2 m q
      simp only at ed en
      show EvN g _ ρ ds ρ2
      rw [← en, ed]
      refine en_lc (vs := [i, j]) (ρ1 := (ρ1.set i .no).set j .no) (evI_wk (evI_wk (evI_ok it _ _ _ h1))) E bs dd e0 hc.1 (fun k m => by
        have : k = i ∨ k = j := by simpa using m
        rcases this with rfl | rfl
        · exact hc.2.1.1
        · exact hc.2.1.2) (fun n hi k m => hno n hi k m) fun n hi => ?_
      have sti := st n hi
      split at sti
      case isFalse => cases sti
      rename_i lenE
      obtain ⟨y, ey, sti⟩ := bnd sti
      obtain ⟨⟨b, ρ3⟩, q1, q2⟩ := bnd sti
      have kt := evT_ok t _ _ _ q1
      simp only at q2
      obtain ⟨ya, yb⟩ := y
      rw [two_eq ey]
      refine ⟨_, ρ3, tgc_two lenE.1 lenE.2 hc.2.1.1 hc.2.1.2, ?_⟩
      cases b with
      | true =>
        rw [if_pos rfl] at q2
        obtain ⟨⟨w, ρ4⟩, q3, q4⟩ := bnd q2
        obtain ⟨d, q5, q6⟩ := mpd q4
        cases hb : bs n with
        | false => rw [hb] at q6; simp only [Bool.false_eq_true, if_false] at q6; cases (congrArg Prod.fst q6)
        | true =>
          rw [hb] at q6
          have z1 : some d = some (dd n) := congrArg Prod.fst q6
          have z2 : (ρ4.set i .no).set j .no = E (n + 1) := congrArg Prod.snd q6
          cases z1
          refine ⟨kt, fun _ => ⟨ρ4, toD_ok (evE_ok e _ _ _ q3) q5, z2 ▸ back_set2⟩, fun z => nomatch z⟩
      | false =>
        rw [if_neg (by decide)] at q2
        have q2 := Option.some.inj q2
        cases hb : bs n with
        | true => rw [hb] at q2; cases (congrArg Prod.fst q2)
        | false =>
          have z2 : (ρ3.set i .no).set j .no = E (n + 1) := congrArg Prod.snd q2
          exact And.intro kt (And.intro (fun z => absurd z (by decide)) (fun _ => z2 ▸ back_set2))
    · cases h
  | .callL f i j, ρ, v, ρ', h => by
    unfold evE at h
    replace h := bnd h; obtain ⟨st, h1, h⟩ := h
    replace h := bnd h; obtain ⟨ds, h2, h⟩ := h
    replace h := bnd h; obtain ⟨⟨r, st'⟩, h3, h⟩ := h
    cases r with
    | new w => cases h
    | dat d =>
      simp only at h
      split at h
      · rename_i hc
        cases h
        exact ed_callL (ownL_eq h1) (ownL_eq h2) hc.1 h3 hc.2.1 hc.2.2.1 hc.2.2.2
      · cases h
  | .lrg a, ρ, v, ρ', h => by
    unfold evE at h
    replace h := bnd h; obtain ⟨⟨va, ρ1⟩, h1, h⟩ := h
    replace h := bnd h; obtain ⟨d, hd, h⟩ := h
    replace h := bnd h; obtain ⟨n, hn, h⟩ := h
    cases asI_eq hn
    split at h
    · rename_i hr
      cases h
      have := en_rg1 (toD_ok (evE_ok a _ _ _ h1) hd) (RgOk.of_le (by omega) (by omega) (by omega) (by omega))
      rw [rg_map] at this
      exact this
    · cases h
  | .trg a, ρ, v, ρ', h => by
    unfold evE at h
    replace h := bnd h; obtain ⟨⟨va, ρ1⟩, h1, h⟩ := h
    replace h := bnd h; obtain ⟨d, hd, h⟩ := h
    replace h := bnd h; obtain ⟨n, hn, h⟩ := h
    cases asI_eq hn
    split at h
    · rename_i hr
      cases h
      have := ed_tupRg1 (toD_ok (evE_ok a _ _ _ h1) hd) (RgOk.of_le (by omega) (by omega) (by omega) (by omega))
      rw [rg_map] at this
      exact this
    · cases h
  | .pop i a, ρ, v, ρ', h => by
    unfold evE at h
    replace h := bnd h; obtain ⟨d0, h0, h⟩ := h
    replace h := bnd h; obtain ⟨⟨va, ρ1⟩, h1, h⟩ := h
    replace h := bnd h; obtain ⟨d, hd, h⟩ := h
    replace h := bnd h; obtain ⟨n, hn, h⟩ := h
    replace h := bnd h; obtain ⟨ds, hds, h⟩ := h
    cases asI_eq hn
    split at h
    · rename_i hb
      replace h := bnd h; obtain ⟨j, hj, h⟩ := h
      replace h := mpd h; obtain ⟨x, hx, h⟩ := h
      cases h
      exact ed_popAt (ownL_eq h0) (toD_ok (evE_ok a _ _ _ h1) hd) (ownL_eq hds) hb (ixN_seq hj).1 hx
    · cases h
  | .idxL a b, ρ, v, ρ', h => by
    unfold evE at h
    replace h := bnd h; obtain ⟨⟨va, ρ1⟩, h1, h⟩ := h
    replace h := bnd h; obtain ⟨d, hd, h⟩ := h
    replace h := bnd h; obtain ⟨⟨vb, ρ2⟩, h2, h⟩ := h
    replace h := bnd h; obtain ⟨B, hB, h⟩ := h
    replace h := bnd h; obtain ⟨e, dB, h⟩ := h
    split at h
    · split at h
      · rename_i hs
        replace h := mpd h; obtain ⟨j, hj, h⟩ := h
        cases h
        obtain ⟨z, z1, z2, z3⟩ := idxOf_ok hj
        exact ed_bm (dA := by show (match B.den ρ2, some ([] : List D) with | some d, some ds => some (d :: ds) | _, _ => none) = _; rw [dB]) (toD_ok (evE_ok a _ _ _ h1) hd) (ea_cons (toA_ok (evE_ok b _ _ _ h2) hB) ea_nil) rfl (rm_index hs.1 hs.2 z1 z2 z3)
      · cases h
    · cases h
  | .idxT a b, ρ, v, ρ', h => by
    unfold evE at h
    replace h := bnd h; obtain ⟨⟨va, ρ1⟩, h1, h⟩ := h
    replace h := bnd h; obtain ⟨d, hd, h⟩ := h
    replace h := bnd h; obtain ⟨⟨vb, ρ2⟩, h2, h⟩ := h
    replace h := bnd h; obtain ⟨B, hB, h⟩ := h
    replace h := bnd h; obtain ⟨e, dB, h⟩ := h
    split at h
    · replace h := bnd h; obtain ⟨xs, hx, h⟩ := h
      replace h := mpd h; obtain ⟨j, hj, h⟩ := h
      cases h
      cases strsOf_eq hx
      obtain ⟨z1, z2⟩ := idxS_ok hj
      exact ed_bmX (dA := by show (match B.den ρ2, some ([] : List D) with | some d, some ds => some (d :: ds) | _, _ => none) = _; rw [dB]) (toD_ok (evE_ok a _ _ _ h1) hd) (ea_cons (toA_ok (evE_ok b _ _ _ h2) hB) ea_nil) (rm_tix z1 z2)
    · cases h
  | .dget i a, ρ, v, ρ', h => by
    unfold evE at h
    replace h := bnd h; obtain ⟨d0, h0, h⟩ := h
    replace h := bnd h; obtain ⟨⟨va, ρ1⟩, h1, h⟩ := h
    replace h := bnd h; obtain ⟨d, hd, h⟩ := h
    replace h := bnd h; obtain ⟨k, hk, h⟩ := h
    replace h := bnd h; obtain ⟨kvs, hv, h⟩ := h
    replace h := mpd h; obtain ⟨x, hx, h⟩ := h
    cases h
    cases keyD_eq hk
    exact ed_dget (ownD_eq h0) (toD_ok (evE_ok a _ _ _ h1) hd) (ownD_eq hv) hx
  | .din a i, ρ, v, ρ', h => by
    unfold evE at h
    replace h := bnd h; obtain ⟨⟨va, ρ1⟩, h1, h⟩ := h
    replace h := bnd h; obtain ⟨d, hd, h⟩ := h
    replace h := bnd h; obtain ⟨k, hk, h⟩ := h
    replace h := mpd h; obtain ⟨kvs, hv, h⟩ := h
    cases h
    cases keyD_eq hk
    exact ed_din (toD_ok (evE_ok a _ _ _ h1) hd) (ownD_eq hv)
  | .dnin a i, ρ, v, ρ', h => by
    unfold evE at h
    replace h := bnd h; obtain ⟨⟨va, ρ1⟩, h1, h⟩ := h
    replace h := bnd h; obtain ⟨d, hd, h⟩ := h
    replace h := bnd h; obtain ⟨k, hk, h⟩ := h
    replace h := mpd h; obtain ⟨kvs, hv, h⟩ := h
    cases h
    cases keyD_eq hk
    exact ed_dnotin (toD_ok (evE_ok a _ _ _ h1) hd) (ownD_eq hv)
  | .dset i a b, ρ, v, ρ', h => by
    unfold evE at h
    replace h := bnd h; obtain ⟨d0, h0, h⟩ := h
    replace h := bnd h; obtain ⟨⟨va, ρ1⟩, h1, h⟩ := h
    replace h := bnd h; obtain ⟨d, hd, h⟩ := h
    replace h := bnd h; obtain ⟨k, hk, h⟩ := h
    replace h := bnd h; obtain ⟨⟨vb, ρ2⟩, h2, h⟩ := h
    replace h := bnd h; obtain ⟨e, he, h⟩ := h
    replace h := bnd h; obtain ⟨kvs, hv, h⟩ := h
    split at h
    · cases h
      cases keyD_eq hk
      exact ed_setd (ownD_eq h0) (toD_ok (evE_ok a _ _ _ h1) hd) (toD_ok (evE_ok b _ _ _ h2) he) (ownD_eq hv) ‹_›
    · cases h
  | .dinD a b, ρ, v, ρ', h => by
    unfold evE at h
    replace h := bnd h; obtain ⟨⟨va, ρ1⟩, h1, h⟩ := h
    replace h := bnd h; obtain ⟨d, hd, h⟩ := h
    replace h := bnd h; obtain ⟨k, hk, h⟩ := h
    replace h := bnd h; obtain ⟨⟨vb, ρ2⟩, h2, h⟩ := h
    replace h := bnd h; obtain ⟨e, he, h⟩ := h
    replace h := mpd h; obtain ⟨kvs, hv, h⟩ := h
    cases h
    cases keyD_eq hk
    exact ed_dinD (toD_ok (evE_ok a _ _ _ h1) hd) (toD_ok (evE_ok b _ _ _ h2) he) hv
  | .dninD a b, ρ, v, ρ', h => by
    unfold evE at h
    replace h := bnd h; obtain ⟨⟨va, ρ1⟩, h1, h⟩ := h
    replace h := bnd h; obtain ⟨d, hd, h⟩ := h
    replace h := bnd h; obtain ⟨k, hk, h⟩ := h
    replace h := bnd h; obtain ⟨⟨vb, ρ2⟩, h2, h⟩ := h
    replace h := bnd h; obtain ⟨e, he, h⟩ := h
    replace h := mpd h; obtain ⟨kvs, hv, h⟩ := h
    cases h
    cases keyD_eq hk
    exact ed_dninD (toD_ok (evE_ok a _ _ _ h1) hd) (toD_ok (evE_ok b _ _ _ h2) he) hv
  | .dgetD a b, ρ, v, ρ', h => by
    unfold evE at h
    replace h := bnd h; obtain ⟨⟨va, ρ1⟩, h1, h⟩ := h
    replace h := bnd h; obtain ⟨d, hd, h⟩ := h
    replace h := bnd h; obtain ⟨kvs, hv, h⟩ := h
    replace h := bnd h; obtain ⟨⟨vb, ρ2⟩, h2, h⟩ := h
    replace h := bnd h; obtain ⟨e, he, h⟩ := h
    replace h := bnd h; obtain ⟨k, hk, h⟩ := h
    replace h := mpd h; obtain ⟨z, hz, h⟩ := h
    cases h
    cases keyD_eq hk
    exact ed_dgetD (toD_ok (evE_ok a _ _ _ h1) hd) (toD_ok (evE_ok b _ _ _ h2) he) hv hz
  | .fnv a, ρ, v, ρ', h => by cases h; exact ed_fn
  | .callF i tbl as, ρ, v, ρ', h => by
    unfold evE at h
    replace h := bnd h; obtain ⟨d0, h0, h⟩ := h
    replace h := bnd h; obtain ⟨a, hA, h⟩ := h
    replace h := bnd h; obtain ⟨f, hf, h⟩ := h
    replace h := bnd h; obtain ⟨⟨As, ρ1⟩, h1, h⟩ := h
    replace h := bnd h; obtain ⟨ds, hd, h⟩ := h
    replace h := mpd h; obtain ⟨r, hr, h⟩ := h
    cases h
    have h0' := datV_eq h0
    rw [asFn_eq hA] at h0'
    cases r with
    | dat d => exact ed_callF h0' hf (evA_ok as _ _ _ h1) hr hd
    | new w => exact ew_callF h0' hf (evA_ok as _ _ _ h1) hr hd
  | .callT i tbl as, ρ, v, ρ', h => by
    unfold evE at h
    replace h := bnd h; obtain ⟨d0, h0, h⟩ := h
    replace h := bnd h; obtain ⟨a, hA, h⟩ := h
    replace h := bnd h; obtain ⟨f, hf, h⟩ := h
    replace h := bnd h; obtain ⟨⟨As, ρ1⟩, h1, h⟩ := h
    replace h := bnd h; obtain ⟨ds, hd, h⟩ := h
    replace h := mpd h; obtain ⟨r, hr, h⟩ := h
    cases h
    have h0' := datV_eq h0
    rw [asFn_eq hA] at h0'
    cases r with
    | dat d => exact ed_callT h0' hf (evA_ok as _ _ _ h1) hr hd
    | new w => exact ew_callT h0' hf (evA_ok as _ _ _ h1) hr hd
  | .callLam F lf as, ρ, v, ρ', h => by
    unfold evE at h
    replace h := bnd h; obtain ⟨⟨As, ρ1⟩, h1, h⟩ := h
    replace h := bnd h; obtain ⟨ds, hd, h⟩ := h
    replace h := mpd h; obtain ⟨r, hr, h⟩ := h
    cases h
    cases r with
    | dat d => exact ed_callLamE (evA_ok as _ _ _ h1) hr hd
    | new w => exact ew_callLamE (evA_ok as _ _ _ h1) hr hd
  | .xin n a i, ρ, v, ρ', h => by
    unfold evE at h
    replace h := bnd h; obtain ⟨⟨va, ρ1⟩, h1, h⟩ := h
    replace h := bnd h; obtain ⟨d, hd, h⟩ := h
    replace h := bnd h; obtain ⟨k, hk, h⟩ := h
    replace h := mpd h; obtain ⟨kvs, hv, h⟩ := h
    cases h
    obtain ⟨e1, e2, e3⟩ := tkD_eq hk
    subst e1
    exact ed_xin (toD_ok (evE_ok a _ _ _ h1) hd) e2 e3 (ownT_eq hv)
  | .xget i a, ρ, v, ρ', h => by
    unfold evE at h
    replace h := bnd h; obtain ⟨d0, h0, h⟩ := h
    replace h := bnd h; obtain ⟨⟨va, ρ1⟩, h1, h⟩ := h
    replace h := bnd h; obtain ⟨d, hd, h⟩ := h
    replace h := bnd h; obtain ⟨k, hk, h⟩ := h
    replace h := bnd h; obtain ⟨kvs, hv, h⟩ := h
    replace h := mpd h; obtain ⟨x, hx, h⟩ := h
    cases h
    obtain ⟨e1, e2, e3⟩ := tkD_eq hk
    subst e1
    exact ed_xget (ownT_eq h0) (toD_ok (evE_ok a _ _ _ h1) hd) e2 e3 (ownT_eq hv) hx
  | .lcc it i it1 j e, ρ, v, ρ', h => by
    unfold evE at h
    replace h := bnd h; obtain ⟨⟨l, ρ1⟩, h1, h⟩ := h
    split at h
    · rename_i hc
      replace h := bnd h; obtain ⟨⟨ds, ρ2⟩, h2, h⟩ := h
      split at h
      · rename_i hz
        cases h
        obtain ⟨E, L, e0, en, ed, st⟩ := lccGo_turns h2
        have hno : ∀ k, k ≤ l.length → ∀ q : Nat, q ∈ [i, j] → ∀ e : Ent, (E k)[q]? = some e → e = .no := fun k hk q m e z => by
          cases k with
          | zero => rw [e0] at z; exact set_no2 m z
          | succ k =>
            have := st k (Nat.lt_of_succ_le hk)
            split at this
            case isFalse => cases this
            obtain ⟨⟨l1, ρ3⟩, q1, q2⟩ := bnd this
            obtain ⟨⟨d3, ρ4⟩, q3, q4⟩ := mpd q2
            have y : (ρ4.set i .no).set j .no = E (k + 1) := congrArg Prod.snd q4
            rw [← y] at z
            exact set_no2 m z
        simp only at hz
        show EvN g _ ρ ds ρ2
        rw [← en, ed]
        refine en_lc2 (vs := [i, j]) (vs1 := [j]) (ρ1 := (ρ1.set i .no).set j .no) (evI_wk (evI_wk (evI_ok it _ _ _ h1))) E L e0 (fun k hk => Nat.lt_of_le_of_lt (flat_pre hk) (ed ▸ hz)) (fun k m => ?_) (fun k m => by rw [List.mem_singleton.mp m]; simp) hno fun k hk => ?_
        · have m' : k = i ∨ k = j := by simpa using m
          rcases m' with rfl | rfl
          · exact hc.1.1
          · exact hc.1.2
        · have sti := st k hk
          split at sti
          case isFalse => cases sti
          rename_i lenE
          obtain ⟨⟨l1, ρ3⟩, q1, q2⟩ := bnd sti
          obtain ⟨⟨d3, ρ4⟩, q3, q4⟩ := mpd q2
          have y1 : d3 = L k := congrArg Prod.fst q4
          have y2 : (ρ4.set i .no).set j .no = E (k + 1) := congrArg Prod.snd q4
          obtain ⟨E1, bs, dd, f0, fn, fd, ft⟩ := lcGo_turns q3
          have one : ∀ m, m < l1.length → ∃ (d : D) (w : Vl) (ρ5 : Rho), bs m = true ∧ dd m = d ∧ j < (E1 m).length ∧ evE g.ps e ((E1 m).set j (.dat (nthD l1 m))) = some (w, ρ5) ∧ toD w = some d ∧ ρ5.set j .no = E1 (m + 1) := fun m hm => by
            have := ft m hm
            split at this
            case isFalse => cases this
            rename_i lj
            obtain ⟨⟨w, ρ5⟩, r1, r2⟩ := bnd this
            obtain ⟨d, r3, r4⟩ := mpd r2
            cases hb : bs m with
            | false => rw [hb] at r4; simp only [Bool.false_eq_true, if_false] at r4; cases (congrArg Prod.fst r4)
            | true =>
              rw [hb] at r4
              have z1 : some d = some (dd m) := congrArg Prod.fst r4
              have z2 : ρ5.set j .no = E1 (m + 1) := congrArg Prod.snd r4
              exact ⟨d, w, ρ5, rfl, (Option.some.inj z1).symm, lj, r1, r3, z2⟩
          have all : (List.range l1.length).filter bs = List.range l1.length := List.filter_eq_self.mpr fun m hm => by
            obtain ⟨_, _, _, hb, _⟩ := one m (List.mem_range.mp hm)
            exact hb
          rw [all] at fd
          refine ⟨_, l1.length, nthD l1, dd, E1, by rw [← y1]; exact fd, tgc_name lenE.1 hc.1.1 (by simp), f0 ▸ evI_wk (evI_ok it1 _ _ _ q1), fun m hm q mq => ?_, fun m hm => ?_, ?_⟩
          · rw [List.mem_singleton.mp mq]
            cases m with
            | zero => rw [f0]; exact set_no
            | succ m =>
              obtain ⟨_, _, ρ5, _, _, _, _, _, z⟩ := one m (Nat.lt_of_succ_le hm)
              rw [← z]; exact set_no
          · obtain ⟨d, w, ρ5, _, z1, lj, r1, r3, z2⟩ := one m hm
            exact ⟨_, ρ5, tgc_name lj hc.1.2 (by simp), z1 ▸ toD_ok (evE_ok e _ _ _ r1) r3, z2 ▸ back_set (.inr trivial)⟩
          · rw [fn, ← y2]
            exact back_set2
      · cases h
    · cases h
  | .anyNe i j, ρ, v, ρ', h => by
    unfold evE at h
    replace h := bnd h; obtain ⟨d, hd, h⟩ := h
    replace h := bnd h; obtain ⟨e, he, h⟩ := h
    replace h := mpd h; obtain ⟨b, hb, h⟩ := h
    cases h
    have h1 := datV_eq hd
    have h2 := datV_eq he
    unfold anyNeD at hb
    split at hb
    · replace hb := bnd hb; obtain ⟨mss, hm, hb⟩ := hb
      replace hb := bnd hb; obtain ⟨cs, hc, hb⟩ := hb
      split at hb
      · rename_i hh
        cases hb
        exact ed_anyNe h1 h2 hm hc hh.1 hh.2
      · cases hb
    · cases hb
  | .xd1 it i a b, ρ, v, ρ', h => by
    unfold evE at h
    replace h := bnd h; obtain ⟨⟨l, ρ1⟩, h1, h⟩ := h
    split at h
    · rename_i hc
      replace h := mpd h; obtain ⟨⟨ds, ρ2⟩, h2, h⟩ := h
      cases h
      obtain ⟨E, ks, dd, e0, en, ed, st⟩ := prGo_turns h2
      have turn : ∀ n, n < l.length → ∃ d k q r e, i < (E n).length ∧ evE g.ps a ((E n).set i (.dat (nthD l n))) = some q ∧ toD q.1 = some d ∧ tkD d = some k ∧ evE g.ps b q.2 = some r ∧ toD r.1 = some e ∧ k = ks n ∧ e = dd n ∧ r.2.set i .no = E (n + 1) := fun n hn => by
        have z := st n hn
        split at z
        case isFalse => cases z
        rename_i hl
        obtain ⟨q, z2, z⟩ := bnd z
        obtain ⟨d, z3, z⟩ := bnd z
        obtain ⟨k, z4, z⟩ := bnd z
        obtain ⟨r, z5, z⟩ := bnd z
        obtain ⟨e, z6, z⟩ := mpd z
        exact ⟨d, k, q, r, e, hl, z2, z3, z4, z5, z6, congrArg (fun p => p.1.1) z, congrArg (fun p => p.1.2) z, congrArg (fun p => p.2) z⟩
      have hno : ∀ n, n ≤ l.length → ∀ k, k ∈ [i] → ∀ e : Ent, (E n)[k]? = some e → e = .no := fun n hi => by
        cases n with
        | zero => rw [e0]; exact fun k m => by rw [List.mem_singleton.mp m]; exact set_no
        | succ n =>
          obtain ⟨_, _, _, _, _, _, _, _, _, _, _, _, _, z⟩ := turn n (Nat.lt_of_succ_le hi)
          rw [← z]; exact fun k m => by rw [List.mem_singleton.mp m]; exact set_no
      simp only at ed en
      show EvW g _ ρ (.dT (foldT ds)) ρ2
      rw [← en, ed, foldT_dc]
      refine ew_xdc (vs := [i]) (ρ1 := ρ1.set i .no) (evI_wk (evI_ok it _ _ _ h1)) E ks dd e0 hc.1 (fun k m => by
        have : k = i := by simpa using m
        subst this
        exact hc.2) (fun n hi k m => hno n hi k m) fun n hi => ?_
      obtain ⟨d, k, q, r, e, hl, z2, z3, z4, z5, z6, rfl, rfl, z7⟩ := turn n hi
      obtain ⟨q1, q2⟩ := q
      obtain ⟨r1, r2⟩ := r
      obtain ⟨w1, w2, w3⟩ := tkD_eq z4
      have ka := toD_ok (evE_ok a _ _ _ z2) z3
      rw [w1] at ka
      exact ⟨_, _, q2, r2, tgc_name hl hc.2 (by simp), (fun c F H σ k s Q q => q F H s (Same.refl _)), ka, ⟨w2, w3⟩, toD_ok (evE_ok b _ _ _ z5) z6, z7 ▸ back_set (.inr trivial)⟩
    · cases h
  | .srK i, ρ, v, ρ', h => by
    unfold evE at h
    replace h := bnd h; obtain ⟨kvs, hv, h⟩ := h
    split at h
    · rename_i hc
      cases h
      exact en_srK (ownT_eq hv) hc
    · cases h
  | .srts a, ρ, v, ρ', h => by
    unfold evE at h
    replace h := bnd h; obtain ⟨⟨va, ρ1⟩, h1, h⟩ := h
    replace h := bnd h; obtain ⟨d, hd, h⟩ := h
    cases d with
    | list ds =>
      replace h := mpd h; obtain ⟨zs, hz, h⟩ := h
      cases h
      unfold srtsV at hz
      replace hz := bnd hz; obtain ⟨ks, hk, hz⟩ := hz
      split at hz
      · rename_i c
        cases hz
        exact en_srts (toD_ok (evE_ok a _ _ _ h1) hd) hk c.1 c.2.1 c.2.2.1 c.2.2.2
      · cases hz
    | _ => cases h
  | .hasX F i a, ρ, v, ρ', h => by
    unfold evE at h
    replace h := bnd h; obtain ⟨kvs0, h0, h⟩ := h
    replace h := bnd h; obtain ⟨⟨va, ρ1⟩, h1, h⟩ := h
    replace h := bnd h; obtain ⟨d, hd, h⟩ := h
    replace h := bnd h; obtain ⟨kvs, hv, h⟩ := h
    replace h := mpd h; obtain ⟨b, hb, h⟩ := h
    cases h
    exact ed_hasX (ownT_eq h0) (toD_ok (evE_ok a _ _ _ h1) hd) (ownT_eq hv) hb
  | .xdc it i j a b, ρ, v, ρ', h => by
    unfold evE at h
    replace h := bnd h; obtain ⟨⟨l, ρ1⟩, h1, h⟩ := h
    split at h
    · rename_i hc
      replace h := mpd h; obtain ⟨⟨ds, ρ2⟩, h2, h⟩ := h
      cases h
      obtain ⟨E, ks, dd, e0, en, ed, st⟩ := prGo_turns h2
      have turn : ∀ n, n < l.length → ∃ y d k q r e, (i < (E n).length ∧ j < (E n).length) ∧ two (nthD l n) = some y ∧ evE g.ps a (((E n).set i (.dat y.1)).set j (.dat y.2)) = some q ∧ toD q.1 = some d ∧ tkD d = some k ∧ evE g.ps b q.2 = some r ∧ toD r.1 = some e ∧ k = ks n ∧ e = dd n ∧ (r.2.set i .no).set j .no = E (n + 1) := fun n hn => by
        have z := st n hn
        split at z
        case isFalse => cases z
        rename_i hl
        obtain ⟨y, z1, z⟩ := bnd z
        obtain ⟨q, z2, z⟩ := bnd z
        obtain ⟨d, z3, z⟩ := bnd z
        obtain ⟨k, z4, z⟩ := bnd z
        obtain ⟨r, z5, z⟩ := bnd z
        obtain ⟨e, z6, z⟩ := mpd z
        exact ⟨y, d, k, q, r, e, hl, z1, z2, z3, z4, z5, z6, congrArg (fun p => p.1.1) z, congrArg (fun p => p.1.2) z, congrArg (fun p => p.2) z⟩
      have hno : ∀ n, n ≤ l.length → ∀ k, k ∈ [i, j] → ∀ e : Ent, (E n)[k]? = some e → e = .no := fun n hi => by
        cases n with
        | zero => rw [e0]; exact fun k m e q => set_no2 m q
        | succ n =>
          obtain ⟨_, _, _, _, _, _, _, _, _, _, _, _, _, _, _, z⟩ := turn n (Nat.lt_of_succ_le hi)
          rw [← z]; exact fun k m e q => set_no2 m q
      simp only at ed en
      show EvW g _ ρ (.dT (foldT ds)) ρ2
      rw [← en, ed, foldT_dc]
      refine ew_xdc (vs := [i, j]) (ρ1 := (ρ1.set i .no).set j .no) (evI_wk (evI_wk (evI_ok it _ _ _ h1))) E ks dd e0 hc.1 (fun k m => by
        have : k = i ∨ k = j := by simpa using m
        rcases this with rfl | rfl
        · exact hc.2.1.1
        · exact hc.2.1.2) (fun n hi k m => hno n hi k m) fun n hi => ?_
      obtain ⟨y, d, k, q, r, e, hl, z1, z2, z3, z4, z5, z6, rfl, rfl, z7⟩ := turn n hi
      obtain ⟨q1, q2⟩ := q
      obtain ⟨r1, r2⟩ := r
      obtain ⟨ya, yb⟩ := y
      rw [two_eq z1]
      obtain ⟨w1, w2, w3⟩ := tkD_eq z4
      have ka := toD_ok (evE_ok a _ _ _ z2) z3
      rw [w1] at ka
      exact ⟨_, _, q2, r2, tgc_two hl.1 hl.2 hc.2.1.1 hc.2.1.2, evT_ok .yes _ _ _ rfl, ka, ⟨w2, w3⟩, toD_ok (evE_ok b _ _ _ z5) z6, z7 ▸ back_set2⟩
    · cases h
  | .callE e tbl as, ρ, v, ρ', h => by
    unfold evE at h
    replace h := bnd h; obtain ⟨⟨va, ρ1⟩, h1, h⟩ := h
    replace h := bnd h; obtain ⟨d0, hd0, h⟩ := h
    replace h := bnd h; obtain ⟨a, hA, h⟩ := h
    replace h := bnd h; obtain ⟨f, hf, h⟩ := h
    replace h := bnd h; obtain ⟨⟨As, ρ2⟩, h2, h⟩ := h
    replace h := bnd h; obtain ⟨ds, hd, h⟩ := h
    replace h := mpd h; obtain ⟨r, hr, h⟩ := h
    cases h
    cases asFn_eq hA
    cases r with
    | dat d => exact ed_callE (toD_ok (evE_ok e _ _ _ h1) hd0) hf (evA_ok as _ _ _ h2) hr hd
    | new w => exact ew_callE (toD_ok (evE_ok e _ _ _ h1) hd0) hf (evA_ok as _ _ _ h2) hr hd
  | .isaT a Ts, ρ, v, ρ', h => by
    unfold evE at h
    split at h
    case isFalse => cases h
    rename_i hl
    replace h := bnd h; obtain ⟨⟨va, ρ1⟩, h1, h⟩ := h
    replace h := bnd h; obtain ⟨A, hA, h⟩ := h
    replace h := bnd h; obtain ⟨d, dA, h⟩ := h
    replace h := mpd h; obtain ⟨b, hb, h⟩ := h
    cases h
    exact ed_isaT (toA_ok (evE_ok a _ _ _ h1) hA) dA hb hl
  | .dspb kx n, ρ, v, ρ', h => by
    unfold evE at h
    replace h := bnd h; obtain ⟨d, hd, h⟩ := h
    replace h := mpd h; obtain ⟨q, hq, h⟩ := h
    cases h
    have e1 := keyD_eq hq
    subst e1
    exact ew_dispb (evK_ok hd)
  | .dsp kx n, ρ, v, ρ', h => by
    unfold evE at h
    replace h := bnd h; obtain ⟨d, hd, h⟩ := h
    replace h := mpd h; obtain ⟨q, hq, h⟩ := h
    cases h
    have e1 := keyD_eq hq
    subst e1
    exact ew_disp1 (evK_ok hd)
  | .srs a, ρ, v, ρ', h => by
    unfold evE at h
    replace h := bnd h; obtain ⟨⟨va, ρ1⟩, h1, h⟩ := h
    replace h := bnd h; obtain ⟨d, hd, h⟩ := h
    cases d with
    | tuple ds =>
      replace h := mpd h; obtain ⟨zs, hz, h⟩ := h
      cases h
      replace hz := bnd hz; obtain ⟨ns, hn, hz⟩ := hz
      cases insD_eq hn
      split at hz
      · rename_i y
        obtain ⟨y1, y2, y3, y4⟩ := y
        cases hz
        exact fun c F H σ k s Q q w => en_srtSet (w := w) (toD_ok (evE_ok a _ _ _ h1) hd) y1 y2 (fun k => ⟨y3 k, y4 k⟩) c F H σ k s Q q
      · cases hz
    | _ => cases h
  | .revT a, ρ, v, ρ', h => by
    unfold evE at h
    replace h := bnd h; obtain ⟨⟨va, ρ1⟩, h1, h⟩ := h
    replace h := bnd h; obtain ⟨d, hd, h⟩ := h
    cases d with
    | tuple ds =>
      cases h
      exact ed_revT (toD_ok (evE_ok a _ _ _ h1) hd)
    | _ => cases h
  | .revL a, ρ, v, ρ', h => by
    unfold evE at h
    replace h := bnd h; obtain ⟨⟨va, ρ1⟩, h1, h⟩ := h
    replace h := bnd h; obtain ⟨A, hA, h⟩ := h
    replace h := bnd h; obtain ⟨d, hd, h⟩ := h
    cases d with
    | list ds =>
      cases h
      exact en_revL (toA_ok (evE_ok a _ _ _ h1) hA) hd
    | _ => cases h
  | .sw e a b, ρ, v, ρ', h => by
    unfold evE at h
    replace h := bnd h; obtain ⟨⟨va, ρ1⟩, h1, h⟩ := h
    replace h := bnd h; obtain ⟨d, hd, h⟩ := h
    replace h := bnd h; obtain ⟨⟨vb, ρ2⟩, h2, h⟩ := h
    replace h := bnd h; obtain ⟨x, hx, h⟩ := h
    cases d with
    | str y =>
      cases x with
      | str z =>
        cases h
        exact ed_bm (toD_ok (evE_ok a _ _ _ h1) hd) (ea_cons (eo_of (toD_ok (evE_ok b _ _ _ h2) hx)) ea_nil) (by first | rfl | trivial | exact .inr rfl) rm_sw
      | _ => cases h
    | _ => cases h
  | .allIn cs a, ρ, v, ρ', h => by
    unfold evE at h
    replace h := bnd h; obtain ⟨⟨va, ρ1⟩, h1, h⟩ := h
    replace h := bnd h; obtain ⟨d, hd, h⟩ := h
    cases d with
    | str y => cases h; exact ed_allIn (toD_ok (evE_ok a _ _ _ h1) hd)
    | _ => cases h
  | .inC n xs a, ρ, v, ρ', h => by
    unfold evE at h
    replace h := bnd h; obtain ⟨⟨va, ρ1⟩, h1, h⟩ := h
    replace h := bnd h; obtain ⟨d, hd, h⟩ := h
    cases d with
    | str y => cases h; exact ed_inC (toD_ok (evE_ok a _ _ _ h1) hd)
    | _ => cases h
  | .isB n b a, ρ, v, ρ', h => by
    unfold evE at h
    replace h := bnd h; obtain ⟨⟨va, ρ1⟩, h1, h⟩ := h
    replace h := bnd h; obtain ⟨d, hd, h⟩ := h
    replace h := mpd h; obtain ⟨x, hx, h⟩ := h
    cases h
    cases asB_eq hx
    exact ed_op (eo_of (toD_ok (evE_ok a _ _ _ h1) hd)) (eo_of ed_bl) r2_isBl
  | .lget i a, ρ, v, ρ', h => by
    unfold evE at h
    replace h := bnd h; obtain ⟨d0, h0, h⟩ := h
    replace h := bnd h; obtain ⟨⟨va, ρ1⟩, h1, h⟩ := h
    replace h := bnd h; obtain ⟨d, hd, h⟩ := h
    replace h := bnd h; obtain ⟨k, hk, h⟩ := h
    replace h := bnd h; obtain ⟨kvs, hv, h⟩ := h
    replace h := mpd h; obtain ⟨x, hx, h⟩ := h
    cases h
    cases keyD_eq hk
    exact ed_lget (ownF_eq h0) (toD_ok (evE_ok a _ _ _ h1) hd) (ownF_eq hv) hx
  | .dget2 i a b, ρ, v, ρ', h => by
    unfold evE at h
    replace h := bnd h; obtain ⟨d0, h0, h⟩ := h
    replace h := bnd h; obtain ⟨⟨va, ρ1⟩, h1, h⟩ := h
    replace h := bnd h; obtain ⟨d, hd, h⟩ := h
    replace h := bnd h; obtain ⟨k, hk, h⟩ := h
    replace h := bnd h; obtain ⟨⟨vb, ρ2⟩, h2, h⟩ := h
    replace h := bnd h; obtain ⟨z, hz, h⟩ := h
    replace h := mpd h; obtain ⟨kvs, hv, h⟩ := h
    cases h
    cases keyD_eq hk
    exact ed_dget2 (ownD_eq h0) (toD_ok (evE_ok a _ _ _ h1) hd) (toD_ok (evE_ok b _ _ _ h2) hz) (ownD_eq hv)
  | .callX f as, ρ, v, ρ', h => by
    unfold evE at h
    replace h := bnd h; obtain ⟨⟨As, ρ1⟩, h1, h⟩ := h
    replace h := bnd h; obtain ⟨ds, hd, h⟩ := h
    replace h := bnd h; obtain ⟨r, hr, h⟩ := h
    cases r with
    | ok r =>
      cases r with
      | dat d =>
        cases h
        exact ed_callX (R := fun ds r => f ds = some r) (evA_ok as _ _ _ h1) hr hd
      | new w => cases h
    | exc C => cases h
theorem evA_ok : ∀ (e : Exs) (ρ : Rho) (As : List DL.Arg) (ρ' : Rho), evA g.ps e ρ = some (As, ρ') → EvA g (denA g.K g.xe e) ρ As ρ'
  | .nil, ρ, As, ρ', h => by cases h; exact ea_nil
  | .cons a as, ρ, As, ρ', h => by
    unfold evA at h
    replace h := bnd h; obtain ⟨⟨va, ρ1⟩, h1, h⟩ := h
    replace h := bnd h; obtain ⟨A, hA, h⟩ := h
    replace h := mpd h; obtain ⟨⟨Bs, ρ2⟩, h2, h⟩ := h
    cases h
    exact ea_cons (toA_ok (evE_ok a _ _ _ h1) hA) (evA_ok as _ _ _ h2)
theorem evT_ok : ∀ (e : Tx) (ρ : Rho) (b : Bool) (ρ' : Rho), evT g.ps e ρ = some (b, ρ') → EvT g (denT g.K g.xe e) ρ b ρ'
  | .te a, ρ, b, ρ', h => by
    unfold evT at h
    replace h := bnd h; obtain ⟨⟨va, ρ1⟩, h1, h⟩ := h
    replace h := bnd h; obtain ⟨d, hd, h⟩ := h
    replace h := mpd h; obtain ⟨x, hx, h⟩ := h
    cases h
    cases asB_eq hx
    exact et_test (toD_ok (evE_ok a _ _ _ h1) hd)
  | .tb a, ρ, b, ρ', h => by
    unfold evT at h
    replace h := bnd h; obtain ⟨⟨va, ρ1⟩, h1, h⟩ := h
    replace h := bnd h; obtain ⟨d, hd, h⟩ := h
    replace h := mpd h; obtain ⟨x, hx, h⟩ := h
    cases h
    cases asB_eq hx
    exact et_B (toD_ok (evE_ok a _ _ _ h1) hd)
  | .nt t, ρ, b, ρ', h => by
    unfold evT at h
    replace h := mpd h; obtain ⟨⟨x, ρ1⟩, h1, h⟩ := h
    cases h
    exact et_not (evT_ok t _ _ _ h1)
  | .an t u, ρ, b, ρ', h => by
    unfold evT at h
    replace h := bnd h; obtain ⟨⟨x, ρ1⟩, h1, h⟩ := h
    cases x with
    | true =>
      simp only [if_true] at h
      exact et_andT (evT_ok t _ _ _ h1) (evT_ok u _ _ _ h)
    | false =>
      simp only [Bool.false_eq_true, if_false] at h
      cases h
      exact et_andF (evT_ok t _ _ _ h1)
  | .or t u, ρ, b, ρ', h => by
    unfold evT at h
    replace h := bnd h; obtain ⟨⟨x, ρ1⟩, h1, h⟩ := h
    cases x with
    | true =>
      simp only [if_true] at h
      cases h
      exact et_orT (evT_ok t _ _ _ h1)
    | false =>
      simp only [Bool.false_eq_true, if_false] at h
      exact et_orF (evT_ok t _ _ _ h1) (evT_ok u _ _ _ h)
  | .yes, ρ, b, ρ', h => by cases h; exact et_yes'
  | .lend t, ρ, b, ρ', h => by
    unfold evT at h
    replace h := mpd h; obtain ⟨⟨x, ρ1⟩, h1, h⟩ := h
    cases h
    exact et_lend (evT_ok t _ _ _ h1)
  | .tl a, ρ, b, ρ', h => by
    unfold evT at h
    replace h := bnd h; obtain ⟨⟨va, ρ1⟩, h1, h⟩ := h
    replace h := bnd h; obtain ⟨A, hA, h⟩ := h
    replace h := bnd h; obtain ⟨d, hd, h⟩ := h
    cases d with
    | list ds =>
      cases h
      exact et_tru (toA_ok (evE_ok a _ _ _ h1) hA) hd
    | _ => cases h
theorem evP_ok : ∀ (e : Px) (ρ : Rho) (b : Option Int) (ρ' : Rho), evP g.ps e ρ = some (b, ρ') → EvP g (denP g.K g.xe e) ρ b ρ'
  | .no, ρ, b, ρ', h => by cases h; exact ep_no
  | .at a, ρ, b, ρ', h => by
    unfold evP at h
    replace h := bnd h; obtain ⟨⟨va, ρ1⟩, h1, h⟩ := h
    replace h := bnd h; obtain ⟨d, hd, h⟩ := h
    replace h := mpd h; obtain ⟨x, hx, h⟩ := h
    cases h
    cases asI_eq hx
    exact ep_some (toD_ok (evE_ok a _ _ _ h1) hd)
theorem evI_ok : ∀ (e : Ix) (ρ : Rho) (l : List D) (ρ' : Rho), evI g.ps e ρ = some (l, ρ') → EvI g (denI g.K g.xe e) ρ l.length (nthD l) ρ'
  | .rng1 a, ρ, l, ρ', h => by
    unfold evI at h
    replace h := bnd h; obtain ⟨⟨va, ρ1⟩, h1, h⟩ := h
    replace h := bnd h; obtain ⟨d, hd, h⟩ := h
    replace h := bnd h; obtain ⟨n, hn, h⟩ := h
    cases asI_eq hn
    split at h
    · rename_i hb
      cases h
      rw [rgD_len]
      exact evI_congr (ei_rng1 (ea_cons (eo_of (toD_ok (evE_ok a _ _ _ h1) hd)) ea_nil) rfl hb) fun i hi => (rgD_at hi).symm
    · cases h
  | .rng2 a b, ρ, l, ρ', h => by
    unfold evI at h
    replace h := bnd h; obtain ⟨⟨va, ρ1⟩, h1, h⟩ := h
    replace h := bnd h; obtain ⟨d, hd, h⟩ := h
    replace h := bnd h; obtain ⟨m, hm, h⟩ := h
    replace h := bnd h; obtain ⟨⟨vb, ρ2⟩, h2, h⟩ := h
    replace h := bnd h; obtain ⟨e, he, h⟩ := h
    replace h := bnd h; obtain ⟨n, hn, h⟩ := h
    cases asI_eq hm
    cases asI_eq hn
    split at h
    · rename_i hb
      cases h
      rw [rgD_len]
      exact evI_congr (ei_rng2 (ea_cons (eo_of (toD_ok (evE_ok a _ _ _ h1) hd)) (ea_cons (eo_of (toD_ok (evE_ok b _ _ _ h2) he)) ea_nil)) rfl rfl hb) fun i hi => (rgD_at hi).symm
    · cases h
  | .rng3 a b c, ρ, l, ρ', h => by
    unfold evI at h
    replace h := bnd h; obtain ⟨⟨va, ρ1⟩, h1, h⟩ := h
    replace h := bnd h; obtain ⟨d, hd, h⟩ := h
    replace h := bnd h; obtain ⟨m, hm, h⟩ := h
    replace h := bnd h; obtain ⟨⟨vb, ρ2⟩, h2, h⟩ := h
    replace h := bnd h; obtain ⟨e, he, h⟩ := h
    replace h := bnd h; obtain ⟨n, hn, h⟩ := h
    replace h := bnd h; obtain ⟨⟨vc, ρ3⟩, h3, h⟩ := h
    replace h := bnd h; obtain ⟨f, hf, h⟩ := h
    replace h := bnd h; obtain ⟨o, ho, h⟩ := h
    cases asI_eq hm
    cases asI_eq hn
    cases asI_eq ho
    split at h
    · rename_i hb
      obtain ⟨ho, hb⟩ := hb
      subst ho
      cases h
      rw [rdD_len]
      exact evI_congr (ei_rngN (ea_cons (eo_of (toD_ok (evE_ok a _ _ _ h1) hd)) (ea_cons (eo_of (toD_ok (evE_ok b _ _ _ h2) he)) (ea_cons (eo_of (toD_ok (evE_ok c _ _ _ h3) hf)) ea_nil))) rfl rfl rfl hb) fun i hi => (rdD_at hi).symm
    · cases h
  | .u a, ρ, l, ρ', h => by
    unfold evI at h
    replace h := bnd h; obtain ⟨⟨va, ρ1⟩, h1, h⟩ := h
    replace h := bnd h; obtain ⟨d, hd, h⟩ := h
    split at h
    · cases h
      exact ei_uL (toD_ok (evE_ok a _ _ _ h1) hd)
    · cases h
      exact ei_uT (toD_ok (evE_ok a _ _ _ h1) hd)
    · cases h
  | .en a, ρ, l, ρ', h => by
    unfold evI at h
    replace h := bnd h; obtain ⟨⟨va, ρ1⟩, h1, h⟩ := h
    replace h := bnd h; obtain ⟨d, hd, h⟩ := h
    split at h
    · cases h
      rw [enD_len]
      exact evI_congr (ei_enT (toD_ok (evE_ok a _ _ _ h1) hd)) fun i hi => (enD_at hi).symm
    · cases h
  | .enl a, ρ, l, ρ', h => by
    unfold evI at h
    replace h := bnd h; obtain ⟨⟨va, ρ1⟩, h1, h⟩ := h
    replace h := bnd h; obtain ⟨d, hd, h⟩ := h
    split at h
    · cases h
      rw [enD_len]
      exact evI_congr (ei_enL (toD_ok (evE_ok a _ _ _ h1) hd)) fun i hi => (enD_at hi).symm
    · cases h
  | .zp a b, ρ, l, ρ', h => by
    unfold evI at h
    replace h := bnd h; obtain ⟨⟨va, ρ1⟩, h1, h⟩ := h
    replace h := bnd h; obtain ⟨d, hd, h⟩ := h
    replace h := bnd h; obtain ⟨⟨vb, ρ2⟩, h2, h⟩ := h
    replace h := bnd h; obtain ⟨z, hz, h⟩ := h
    split at h
    · cases h
      rw [show ∀ xs ys : List D, (zipD xs ys).length = min xs.length ys.length from fun xs ys => List.length_zipWith]
      exact evI_congr (ei_zipF (ea_cons (eo_of (toD_ok (evE_ok a _ _ _ h1) hd)) (ea_cons (eo_of (toD_ok (evE_ok b _ _ _ h2) hz)) ea_nil)) rfl rfl) fun i hi => (zipD_at hi).symm
    · cases h
  | .ky i, ρ, l, ρ', h => by
    unfold evI at h
    replace h := mpd h; obtain ⟨kvs, hv, h⟩ := h
    cases h
    exact ei_keys (ownF_eq hv)
  | .ukd a, ρ, l, ρ', h => by
    unfold evI at h
    replace h := bnd h; obtain ⟨⟨va, ρ1⟩, h1, h⟩ := h
    replace h := mpd h; obtain ⟨kvs, hv, h⟩ := h
    cases h
    have k := evE_ok a _ _ _ h1
    cases va with
    | w w =>
      cases w with
      | dK kvs' => cases hv; exact ei_newK k
      | _ => cases hv
    | _ => cases hv
end
end EV
namespace EV
open PySem PySem.Spec PyProof.Rows L2 DL
variable [DL.TabC]
variable {K : PySem.W.Frag} {g : Gm}
mutual
theorem setG_ok : ∀ (t : Tg) (d : D) (ρ ρ' : Rho), setG g.ps t d ρ = some ρ' → DL.Tg g (denG g.K t) d ρ ρ'
  | .nm i, d, ρ, ρ', h => by
    unfold setG at h
    split at h
    · rename_i hh
      cases h
      exact tg_name hh.1 hh.2
    · cases h
  | .tup n ts, d, ρ, ρ', h => by
    cases d with
    | tuple ds =>
      unfold setG at h
      split at h
      · exact tg_tup (setGs_ok ts ds _ _ h) ‹_›
      · cases h
    | _ => simp [setG] at h
theorem setGs_ok : ∀ (t : Tgs) (ds : List D) (ρ ρ' : Rho), setGs g.ps t ds ρ = some ρ' → DL.Tgs g (denGs g.K t) ds ρ ρ'
  | .nil, ds, ρ, ρ', h => by
    cases ds with
    | nil => simp [setGs] at h; subst h; exact tgs_nil
    | cons d ds => simp [setGs] at h
  | .cons t ts, ds, ρ, ρ', h => by
    cases ds with
    | nil => simp [setGs] at h
    | cons d ds =>
      unfold setGs at h
      replace h := bnd h; obtain ⟨ρ1, h1, h⟩ := h
      exact tgs_cons (setG_ok t d _ _ h1) (setGs_ok ts ds _ _ h)
end
theorem sv_retL {te : TE} {ρ ρ1 : Rho} {ds : List D} {i : Nat} {P : Out → Prop} (he : EvO g te ρ (.o i) ρ1) (hi : ρ1[i]? = some (.own (.lst ds))) (hp : i ∉ g.ps) (h : P (.rt (ρ1.set i .no) (.new (.lst ds)))) : Sv g (tRet te) ρ P := fun c F H σ E k s p => by
  refine he c F H σ k.ok s _ fun v F1 H1 s1 e1 x => ?_
  have q : σ[i]? = some (some v) := by cases x with | o x => exact x
  have := sv_retOwn (g := g) (i := i) hi h hp c F1 H1 σ E k s1 (p.up e1)
  obtain ⟨v', q1, q2⟩ := this
  rw [q] at q1
  cases q1
  exact q2
theorem retO_ok {te : TE} {ρ ρ1 : Rho} {v : Vl} {o : Out} (k : EvV g te ρ v ρ1) (h : retO g.ps ρ1 v = some o) : Sv g (tRet te) ρ (fun o' => o' = o) := by
  cases v with
  | d x => cases h; exact sv_ret k rfl
  | n ds => cases h; exact sv_retN k rfl
  | w w => cases h; exact sv_retW k rfl
  | o i =>
    change (ownL ρ1 i).bind _ = _ at h
    replace h := bnd h; obtain ⟨ds, hds, h⟩ := h
    split at h
    · cases h; exact sv_retL k (ownL_eq hds) ‹_› rfl
    · cases h
def RTx (g : Gm) (ES : L2.St → XK) (te : TE) (ρ : Rho) : (Vl × Rho) ⊕ (Addr × Rho) → Prop
  | .inl p => EvV g te ρ p.1 p.2
  | .inr q => EvX g ES te ρ q.1 q.2
theorem evR_ok {ES : L2.St → XK} : ∀ (e : RE) (ρ : Rho) (r : (Vl × Rho) ⊕ (Addr × Rho)), evR g.ps e ρ = some r → RTx g ES (denR g.K g.xe ES e) ρ r
  | .x f as, ρ, r, h => by
    unfold evR at h
    replace h := bnd h; obtain ⟨⟨As, ρ1⟩, h1, h⟩ := h
    replace h := bnd h; obtain ⟨ds, hd, h⟩ := h
    replace h := bnd h; obtain ⟨z, hz, h⟩ := h
    cases z with
    | ok z =>
      cases z with
      | dat d =>
        cases h
        exact ed_callXS (R := fun ds r => f ds = some r) (evA_ok as _ _ _ h1) hz hd
      | new w => cases h
    | exc C =>
      cases h
      exact ex_callXS (R := fun ds r => f ds = some r) (evA_ok as _ _ _ h1) hz hd
  | .call f a, ρ, r, h => by
    unfold evR at h
    replace h := bnd h; obtain ⟨z, h1, h⟩ := h
    have k := evR_ok (ES := ES) a _ _ h1
    cases z with
    | inl p =>
      replace h := bnd h; obtain ⟨A, hA, h⟩ := h
      replace h := bnd h; obtain ⟨ds, hd, h⟩ := h
      replace h := mpd h; obtain ⟨y, hy, h⟩ := h
      cases h
      have ka : EvA g (tCons (denR g.K g.xe ES a) tNil) ρ [A] p.2 := ea_cons (toA_ok k hA) ea_nil
      cases y with
      | dat d => exact ed_call (R := fun ds r => f ds = some r) ka hy hd
      | new w => exact ew_call (R := fun ds r => f ds = some r) ka hy hd
    | inr q =>
      cases h
      exact ex_arg k
  | .lst a, ρ, r, h => by
    unfold evR at h
    replace h := bnd h; obtain ⟨z, h1, h⟩ := h
    have k := evR_ok (ES := ES) a _ _ h1
    cases z with
    | inl p =>
      replace h := bnd h; obtain ⟨A, hA, h⟩ := h
      replace h := bnd h; obtain ⟨ds, hd, h⟩ := h
      split at h
      · cases h
        exact en_lst (ea_cons (toA_ok k hA) ea_nil) hd ‹_›
      · cases h
    | inr q =>
      cases h
      exact ex_lst k
  | .e e, ρ, r, h => by
    unfold evR at h
    replace h := mpd h; obtain ⟨p, h1, h⟩ := h
    cases h
    exact evE_ok e _ _ _ h1
theorem tC_d {v : V} {d : D} {ρ : Rho} (h : ∀ F : Hp, Dx g.K F v d) : EvD g (tC v) ρ d ρ := fun c F H σ k s Q q => q v F H s (Same.refl _) (by rw [show c.K = g.K from k.1]; exact h F)
/-- a clause, told -/
theorem he_ok {S C a : Addr} {cs : List Addr} {i : Nat} {ρ : Rho} (hk : KsOk g.K S cs) (m : C ∈ cs) (h : ρ[i]? = some (.dat (fnD a))) : ∀ {x : Hx}, (∀ c ∈ hxN x, c = S ∨ c ∈ cs) → hxL x = true → EvD g (denHe g.K i a (.ref C) none x) ρ (evHx S C x) ρ
  | .tst t, hn, hl => ed_z hk m h hn hl
  | .pick x y t, hn, hl => by
    have hz := ed_z hk m h hn hl
    have e1 : EvN g (tLst (tCons (tC (.str x)) (tCons (tC (.str y)) tNil))) ρ [.str x, .str y] ρ := en_lst (ea_cons (eo_of (tC_d fun _ => .str x)) (ea_cons (eo_of (tC_d fun _ => .str y)) ea_nil)) rfl (show 2 ≤ sizeLine by decide)
    have e2 : EvD g (tCB (bfK g.K .int) (tCons (denZ g.K i a (.ref C) none t) tNil)) ρ (.int (if evZ S C t then 1 else 0)) ρ :=
      ed_cb (ea_cons (eo_of hz) ea_nil) (cb1_ok (K := g.K) .int [.bool (evZ S C t)] _ rfl)
    have e3 : op2 .ix (.list [.str x, .str y]) (.int (if evZ S C t then 1 else 0)) = some (.d (.str (if evZ S C t then y else x))) := by cases evZ S C t <;> rfl
    exact ed_op (toA_ok (v := .n [.str x, .str y]) e1 rfl) (eo_of e2) (op2_ok (K := g.K) .ix _ _ _ e3)
  | .pair x t, hn, hl => ed_tup (ea_cons (eo_of (tC_d fun _ => .str x)) (ea_cons (eo_of (ed_z hk m h hn hl)) ea_nil)) rfl (show 2 ≤ sizeLine by decide)
  | .non, _, _ => tC_d fun _ => .non
  | .bl b, _, _ => tC_d fun _ => .bl b
  | .int n, _, _ => tC_d fun _ => .int n
  | .str x, _, _ => tC_d fun _ => .str x
theorem nmd_lands {S C : Addr} {cs : List Addr} {i : Nat} {c : Cc} {F F' H' : Hp} {σ : L2.St} {ρ' : Rho} {Dn : Ends} {P : Out → Prop} {d : D} (hk : KsOk g.K S cs) (m : C ∈ cs) (k : c.okS g) (hi : i < ρ'.length) (hp : i ∉ g.ps) (p : Post g c Dn F P) (hP : P (.rt (ρ'.set i .no) (.dat d))) (s : Sim c F' H' σ ρ') (e : Same F F') :
    ∀ {hs : List (Addr × Hx)}, (∀ h ∈ hs, (∀ c ∈ h.1 :: hxN h.2, c = S ∨ c ∈ cs) ∧ hxL h.2 = true) → evHs S C hs = some d → wNmd g.K i (fun _ _ _ _ => False) Dn (hs.map fun h => (.ref h.1, denHx g.K i h.2)) (.ref C) none σ H'
  | [], _, z => nomatch z
  | h :: r, hh, z => by
    obtain ⟨hn, hl⟩ := hh h List.mem_cons_self
    refine ⟨_, ks_exm hk m (hn _ List.mem_cons_self), ?_⟩
    unfold evHs at z
    cases q : sub S C h.1 with
    | false =>
      rw [q] at z
      rw [if_neg (by decide)]
      exact nmd_lands hk m k hi hp p hP s e (fun h2 m2 => hh h2 (List.mem_cons_of_mem _ m2)) z
    | true =>
      rw [q, if_pos rfl] at z
      cases z
      rw [if_pos rfl]
      intro a na
      have s2 : Sim c F' H' (σ.set i (some (.ref a))) (ρ'.set i (.dat (fnD a))) := s.setDat (.fn a) hi fun b mb => hp (by rw [← k.ok.2]; exact List.mem_map.mpr ⟨_, mb, rfl⟩)
      refine he_ok hk m (List.getElem?_set_self hi) (fun c mc => hn c (List.mem_cons_of_mem _ mc)) hl c F' H' _ k.ok s2 _ fun v F2 H2 s3 e3 x => ?_
      refine p.rt _ F2 H2 _ v _ hP (s3.weak (by simp) fun j => ?_) (e.trans e3) x
      by_cases y : j = i
      · subst y
        refine .inr fun en ee => ?_
        rw [List.getElem?_set_self hi] at ee
        cases ee
        rfl
      · left
        rw [List.getElem?_set_ne (Ne.symm y), List.getElem?_set_ne (Ne.symm y)]
theorem evB_ok {ES : L2.St → XK} : ∀ (b : TB) (ρ : Rho) (o : Out), evB g.ps b ρ = some o → ∀ (c : Cc) (F H : Hp) (σ : L2.St) (Dn : Ends), c.okS g → Sim c F H σ ρ →
    (∀ ρ' F' H' σ', o = .nx ρ' → Sim c F' H' σ' ρ' → Same F F' → Dn.nx σ' H') →
    (∀ ρ' F' H' σ' v r, o = .rt ρ' r → Sim c F' H' σ' ρ' → Same F F' → RetOk c F' H' v r → Dn.rt v H') → (∀ C ρ' F' H' σ', o = .ex C ρ' → Sim c F' H' σ' ρ' → Same F F' → ES σ' (.ref C) none H') → denB g.K g.xe ES b Dn σ H
  | .ret e, ρ, o, h, c, F, H, σ, Dn, k, s, pn, pr, px => by
    unfold evB at h
    replace h := bnd h; obtain ⟨z, h1, h⟩ := h
    have q := evR_ok (ES := ES) e _ _ h1
    cases z with
    | inl p =>
      have notR : ∀ {o' : Out}, retO g.ps p.2 p.1 = some o' → ∃ ρ' r, o' = .rt ρ' r := fun {o'} z => by
        obtain ⟨v, ρ1⟩ := p
        cases v with
        | d x => cases z; exact ⟨_, _, rfl⟩
        | n ds => cases z; exact ⟨_, _, rfl⟩
        | w w => cases z; exact ⟨_, _, rfl⟩
        | o i =>
          change (ownL ρ1 i).bind _ = _ at z
          replace z := bnd z; obtain ⟨ds, _, z⟩ := z
          split at z
          · cases z; exact ⟨_, _, rfl⟩
          · cases z
      obtain ⟨ρ0, r0, rfl⟩ := notR h
      refine retO_ok q h c F H σ Dn k s ⟨?_, ?_, ?_, ?_, ?_⟩
      · intro _ _ _ _ z; cases z
      · intro ρ' F' H' σ' v r z a b d
        exact pr ρ' F' H' σ' v r z.symm a b d
      · intro _ _ _ _ z; cases z
      · intro _ _ _ _ z; cases z
      · intro _ _ _ _ _ z; cases z
    | inr q' =>
      cases h
      exact q c F H σ k.ok s _ fun F' H' a b => px _ _ F' H' _ rfl a b
  | .iff t a b, ρ, o, h, c, F, H, σ, Dn, k, s, pn, pr, px => by
    unfold evB at h
    replace h := bnd h; obtain ⟨⟨x, ρ1⟩, h1, h⟩ := h
    refine evT_ok t _ _ _ h1 c F H σ k.ok s _ fun F1 H1 s1 e1 => ?_
    cases x with
    | true => exact evB_ok a _ _ h c F1 H1 σ Dn k s1 (fun ρ' F' H' σ' z p q => pn ρ' F' H' σ' z p (e1.trans q)) (fun ρ' F' H' σ' v r z p q => pr ρ' F' H' σ' v r z p (e1.trans q)) fun C ρ' F' H' σ' z p q => px C ρ' F' H' σ' z p (e1.trans q)
    | false => exact evB_ok b _ _ h c F1 H1 σ Dn k s1 (fun ρ' F' H' σ' z p q => pn ρ' F' H' σ' z p (e1.trans q)) (fun ρ' F' H' σ' v r z p q => pr ρ' F' H' σ' v r z p (e1.trans q)) fun C ρ' F' H' σ' z p q => px C ρ' F' H' σ' z p (e1.trans q)
  | .sif t a b, ρ, o, h, c, F, H, σ, Dn, k, s, pn, pr, px => by
    unfold evB at h
    replace h := bnd h; obtain ⟨⟨x, ρ1⟩, h1, h⟩ := h
    refine evT_ok t _ _ _ h1 c F H σ k.ok s _ fun F1 H1 s1 e1 => ?_
    cases x with
    | true =>
      rw [if_pos rfl] at h
      replace h := bnd h; obtain ⟨oa, h2, h⟩ := h
      refine evB_ok a _ _ h2 c F1 H1 σ _ k s1 (fun ρ' F' H' σ' z p q => ?_) (fun ρ' F' H' σ' v r z p q => ?_) fun C ρ' F' H' σ' z p q => ?_
      · subst z
        exact evB_ok b _ _ h c F' H' σ' Dn k p (fun ρ2 F2 H2 σ2 z2 p2 q2 => pn ρ2 F2 H2 σ2 z2 p2 ((e1.trans q).trans q2)) (fun ρ2 F2 H2 σ2 v r z2 p2 q2 => pr ρ2 F2 H2 σ2 v r z2 p2 ((e1.trans q).trans q2)) fun C ρ2 F2 H2 σ2 z2 p2 q2 => px C ρ2 F2 H2 σ2 z2 p2 ((e1.trans q).trans q2)
      · subst z; cases h; exact pr ρ' F' H' σ' v r rfl p (e1.trans q)
      · subst z; cases h; exact px C ρ' F' H' σ' rfl p (e1.trans q)
    | false => exact evB_ok b _ _ h c F1 H1 σ Dn k s1 (fun ρ' F' H' σ' z p q => pn ρ' F' H' σ' z p (e1.trans q)) (fun ρ' F' H' σ' v r z p q => pr ρ' F' H' σ' v r z p (e1.trans q)) fun C ρ' F' H' σ' z p q => px C ρ' F' H' σ' z p (e1.trans q)
  | .set j e, ρ, o, h, c, F, H, σ, Dn, k, s, pn, pr, px => by
    unfold evB at h
    replace h := bnd h; obtain ⟨z, h1, h⟩ := h
    have q := evR_ok (ES := ES) e _ _ h1
    cases z with
    | inr q' =>
      cases h
      exact q c F H σ k.ok s _ fun F' H' a b => px _ _ F' H' _ rfl a b
    | inl p =>
      have po : ∀ {o' : Out}, o = o' → (∃ ρ', o' = .nx ρ') → Post g c Dn F (fun x => x = o') := fun {o'} eo ⟨ρ0, e0⟩ => by
        subst e0
        refine ⟨fun ρ' F' H' σ' z a b => ?_, fun _ _ _ _ _ _ z => ?_, fun _ _ _ _ z => ?_, fun _ _ _ _ z => ?_, fun _ _ _ _ _ z => ?_⟩
        · cases z
          exact pn _ F' H' σ' eo a b
        all_goals cases z
      obtain ⟨v, ρ1⟩ := p
      have q : EvV g (denR g.K g.xe ES e) ρ v ρ1 := q
      cases v with
      | d x =>
        change (if j < ρ1.length ∧ j ∉ g.ps then _ else _) = _ at h
        split at h
        · rename_i hh; cases h; exact sv_set (P := fun x => x = _) q rfl hh.1 hh.2 c F H σ Dn k s (po rfl ⟨_, rfl⟩)
        · cases h
      | o j => cases h
      | n ds =>
        change (if j < ρ1.length ∧ j ∉ g.ps then _ else _) = _ at h
        split at h
        · rename_i hh; cases h; exact sv_setN (P := fun x => x = _) q rfl hh.1 hh.2 c F H σ Dn k s (po rfl ⟨_, rfl⟩)
        · cases h
      | w w =>
        change (if j < ρ1.length ∧ j ∉ g.ps then _ else _) = _ at h
        split at h
        · rename_i hh; cases h; exact sv_setW (P := fun x => x = _) q rfl hh.1 hh.2 c F H σ Dn k s (po rfl ⟨_, rfl⟩)
        · cases h
  | .dr e, ρ, o, h, c, F, H, σ, Dn, k, s, pn, pr, px => by
    unfold evB at h
    replace h := bnd h; obtain ⟨z, h1, h⟩ := h
    have q := evR_ok (ES := ES) e _ _ h1
    cases z with
    | inr q' =>
      cases h
      exact q c F H σ k.ok s _ fun F' H' a b => px _ _ F' H' _ rfl a b
    | inl p =>
      replace h := mpd h; obtain ⟨d, hd, h⟩ := h
      subst h
      exact toD_ok q hd c F H σ k.ok s _ fun v F' H' s' e' x => pn _ F' H' _ rfl s' e'
  | .sq a b, ρ, o, h, c, F, H, σ, Dn, k, s, pn, pr, px => by
    unfold evB at h
    replace h := bnd h; obtain ⟨oa, h2, h⟩ := h
    refine evB_ok a _ _ h2 c F H σ _ k s (fun ρ' F' H' σ' z p q => ?_) (fun ρ' F' H' σ' v r z p q => ?_) fun C ρ' F' H' σ' z p q => ?_
    · subst z
      exact evB_ok b _ _ h c F' H' σ' Dn k p (fun ρ2 F2 H2 σ2 z2 p2 q2 => pn ρ2 F2 H2 σ2 z2 p2 (q.trans q2)) (fun ρ2 F2 H2 σ2 v r z2 p2 q2 => pr ρ2 F2 H2 σ2 v r z2 p2 (q.trans q2)) fun C ρ2 F2 H2 σ2 z2 p2 q2 => px C ρ2 F2 H2 σ2 z2 p2 (q.trans q2)
    · subst z; cases h; exact pr ρ' F' H' σ' v r rfl p q
    · subst z; cases h; exact px C ρ' F' H' σ' rfl p q
  | .nx, ρ, o, h, c, F, H, σ, Dn, k, s, pn, pr, px => by
    cases h
    exact pn _ F H σ rfl s (Same.refl _)
theorem tbl_mem {tbl : List (Addr × List Str)} {C : Addr} {ws : List Str} (h : tblN tbl C = some ws) : (C, ws) ∈ tbl := by
  unfold tblN at h
  replace h := mpd h; obtain ⟨q, h1, h⟩ := h
  have := List.find?_some h1
  have e : q.1 = C := by simpa using this
  have m := List.mem_of_find?_eq_some h1
  rw [← e, ← h]
  exact m
theorem exS_ok : ∀ (st : St) (g : Gm), sideS g.K st → ∀ (ρ : Rho) (o : Out), exS g.ps st ρ = some o → Sv g (denS g.K g.xe st) ρ (fun o' => o' = o)
  | .set i e, g, hs, ρ, o, h => by
    unfold exS at h
    replace h := bnd h; obtain ⟨⟨v, ρ1⟩, h1, h⟩ := h
    have k := evE_ok e _ _ _ h1
    cases v with
    | d x =>
      change (if i < ρ1.length ∧ i ∉ g.ps then _ else _) = _ at h
      split at h
      · rename_i hh; cases h; exact sv_set k rfl hh.1 hh.2
      · cases h
    | o j => cases h
    | n ds =>
      change (if i < ρ1.length ∧ i ∉ g.ps then _ else _) = _ at h
      split at h
      · rename_i hh; cases h; exact sv_setN k rfl hh.1 hh.2
      · cases h
    | w w =>
      change (if i < ρ1.length ∧ i ∉ g.ps then _ else _) = _ at h
      split at h
      · rename_i hh; cases h; exact sv_setW k rfl hh.1 hh.2
      · cases h
  | .asg e t, g, hs, ρ, o, h => by
    unfold exS at h
    replace h := bnd h; obtain ⟨⟨v, ρ1⟩, h1, h⟩ := h
    replace h := bnd h; obtain ⟨d, hd, h⟩ := h
    replace h := mpd h; obtain ⟨ρ2, h2, h⟩ := h
    subst h
    exact sv_asgT (toD_ok (evE_ok e _ _ _ h1) hd) (setG_ok t d _ _ h2) rfl
  | .seti i a e, g, hs, ρ, o, h => by
    unfold exS at h
    replace h := bnd h; obtain ⟨⟨v, ρ1⟩, h1, h⟩ := h
    replace h := bnd h; obtain ⟨d, hd, h⟩ := h
    replace h := bnd h; obtain ⟨d0, h0, h⟩ := h
    replace h := bnd h; obtain ⟨⟨w, ρ2⟩, h2, h⟩ := h
    replace h := bnd h; obtain ⟨x, hx, h⟩ := h
    replace h := bnd h; obtain ⟨n, hn, h⟩ := h
    replace h := bnd h; obtain ⟨ds, hds, h⟩ := h
    replace h := mpd h; obtain ⟨j, hj, h⟩ := h
    subst h
    have e1 := asI_eq hn
    subst e1
    exact sv_setItem (toD_ok (evE_ok e _ _ _ h1) hd) (toD_ok (evE_ok a _ _ _ h2) hx) (ownL_eq h0) (ownL_eq hds) hj rfl
  | .app i e, g, hs, ρ, o, h => by
    unfold exS at h
    replace h := bnd h; obtain ⟨d0, h0, h⟩ := h
    replace h := bnd h; obtain ⟨⟨v, ρ1⟩, h1, h⟩ := h
    replace h := bnd h; obtain ⟨d, hd, h⟩ := h
    replace h := bnd h; obtain ⟨ds, hds, h⟩ := h
    split at h
    · cases h
      exact sv_append (ownL_eq h0) (toD_ok (evE_ok e _ _ _ h1) hd) (ownL_eq hds) ‹_› rfl
    · cases h
  | .newD i, g, hs, ρ, o, h => by
    unfold exS at h
    split at h
    · rename_i hh; cases h; exact sv_newDict rfl hh.1 hh.2
    · cases h
  | .dput i a e, g, hs, ρ, o, h => by
    unfold exS at h
    replace h := bnd h; obtain ⟨⟨v, ρ1⟩, h1, h⟩ := h
    replace h := bnd h; obtain ⟨d, hd, h⟩ := h
    replace h := bnd h; obtain ⟨d0, h0, h⟩ := h
    replace h := bnd h; obtain ⟨⟨w, ρ2⟩, h2, h⟩ := h
    replace h := bnd h; obtain ⟨x, hx, h⟩ := h
    replace h := bnd h; obtain ⟨k, hk, h⟩ := h
    replace h := bnd h; obtain ⟨kvs, hv, h⟩ := h
    split at h
    · cases h
      have e1 := keyD_eq hk
      subst e1
      exact sv_dput (toD_ok (evE_ok e _ _ _ h1) hd) (ownD_eq h0) (toD_ok (evE_ok a _ _ _ h2) hx) (ownD_eq hv) ‹_› rfl
    · cases h
  | .newX i, g, hs, ρ, o, h => by
    unfold exS at h
    split at h
    · rename_i hh; cases h; exact sv_newX rfl hh.1 hh.2
    · cases h
  | .xput i a e, g, hs, ρ, o, h => by
    unfold exS at h
    replace h := bnd h; obtain ⟨⟨v, ρ1⟩, h1, h⟩ := h
    replace h := bnd h; obtain ⟨d, hd, h⟩ := h
    replace h := bnd h; obtain ⟨d0, h0, h⟩ := h
    replace h := bnd h; obtain ⟨⟨w, ρ2⟩, h2, h⟩ := h
    replace h := bnd h; obtain ⟨x, hx, h⟩ := h
    replace h := bnd h; obtain ⟨k, hk, h⟩ := h
    replace h := bnd h; obtain ⟨kvs, hv, h⟩ := h
    split at h
    · cases h
      obtain ⟨e1, e2, e3⟩ := tkD_eq hk
      subst e1
      exact sv_xput (toD_ok (evE_ok e _ _ _ h1) hd) (ownT_eq h0) (toD_ok (evE_ok a _ _ _ h2) hx) e2 e3 (ownT_eq hv) ‹_› rfl
    · cases h
  | .drop e, g, hs, ρ, o, h => by
    unfold exS at h
    replace h := bnd h; obtain ⟨⟨v, ρ1⟩, h1, h⟩ := h
    replace h := mpd h; obtain ⟨d, hd, h⟩ := h
    subst h
    exact sv_drop (toD_ok (evE_ok e _ _ _ h1) hd) rfl
  | .ret e, g, hs, ρ, o, h => by
    unfold exS at h
    replace h := bnd h; obtain ⟨⟨v, ρ1⟩, h1, h⟩ := h
    have k := evE_ok e _ _ _ h1
    cases v with
    | d x => cases h; exact sv_ret k rfl
    | n ds => cases h; exact sv_retN k rfl
    | w w => cases h; exact sv_retW k rfl
    | o i =>
      change (ownL ρ1 i).bind _ = _ at h
      replace h := bnd h; obtain ⟨ds, hds, h⟩ := h
      split at h
      · cases h; exact sv_retL k (ownL_eq hds) ‹_› rfl
      · cases h
  | .retN, g, hs, ρ, o, h => by cases h; exact sv_retNone rfl
  | .iff t a b, g, hs, ρ, o, h => by
    unfold exS at h
    replace h := bnd h; obtain ⟨⟨x, ρ1⟩, h1, h⟩ := h
    refine sv_if (evT_ok t _ _ _ h1) (fun hx => ?_) (fun hx => ?_)
    · simp only [hx, if_true] at h
      exact exS_ok a g hs.1 _ _ h
    · simp only [hx, Bool.false_eq_true, if_false] at h
      exact exS_ok b g hs.2 _ _ h
  | .for it t b, g, hs, ρ, o, h => by
    unfold exS at h
    replace h := bnd h; obtain ⟨⟨l, ρ1⟩, h1, h⟩ := h
    refine sv_for (fun i ρ' => forGo (fun x ρ' => (setG g.ps t x ρ').bind fun ρ1 => exS g.ps b ρ1) (l.drop i) ρ' = some o) (evI_ok it _ _ _ h1) h (fun i ρ' hi hI => ?_) (fun ρ' hI => ?_)
    · have e : l.drop i = nthD l i :: l.drop (i + 1) := by
        rw [List.drop_eq_getElem_cons hi]
        congr 1
        unfold nthD
        rw [List.getD_eq_getElem?_getD, List.getElem?_eq_getElem hi]
        rfl
      simp only [e] at hI
      unfold forGo at hI
      replace hI := bnd hI; obtain ⟨oo, h2, hI⟩ := hI
      replace h2 := bnd h2; obtain ⟨ρ2, h2, h3⟩ := h2
      refine ⟨ρ2, setG_ok t _ _ _ h2, (exS_ok b g hs _ _ h3).mono fun o' eo => ?_⟩
      subst eo
      cases o' with
      | nx ρ3 => exact hI
      | ct ρ3 => exact hI
      | bk ρ3 => exact Option.some.inj hI
      | rt ρ3 r => exact Option.some.inj hI
      | ex C ρ3 => exact Option.some.inj hI
    · simp only [List.drop_length] at hI
      exact Option.some.inj hI
  | .wh n t b, g, hs, ρ, o, h => by
    unfold exS at h
    refine sv_while (fun m ρ' => whGo (fun ρ' => evT g.ps t ρ') (fun ρ' => exS g.ps b ρ') m ρ' = some o) n h (fun m ρ' hI => ?_)
    cases m with
    | zero => cases hI
    | succ m =>
      unfold whGo at hI
      replace hI := bnd hI; obtain ⟨⟨x, ρ2⟩, h2, hI⟩ := hI
      refine ⟨x, ρ2, evT_ok t _ _ _ h2, fun hx => ?_, fun hx => ?_⟩
      · simp only [hx, if_true] at hI
        replace hI := bnd hI; obtain ⟨oo, h3, hI⟩ := hI
        refine (exS_ok b g hs _ _ h3).mono fun o' eo => ?_
        subst eo
        cases o' with
        | nx ρ3 => exact ⟨m, by omega, hI⟩
        | ct ρ3 => exact ⟨m, by omega, hI⟩
        | bk ρ3 => exact Option.some.inj hI
        | rt ρ3 r => exact Option.some.inj hI
        | ex C ρ3 => exact Option.some.inj hI
      · simp only [hx, Bool.false_eq_true, if_false] at hI
        exact Option.some.inj hI
  | .brk, g, hs, ρ, o, h => by cases h; exact sv_break rfl
  | .cont, g, hs, ρ, o, h => by cases h; exact sv_cont rfl
  | .nx, g, hs, ρ, o, h => by cases h; exact sv_next rfl
  | .seq a b, g, hs, ρ, o, h => by
    unfold exS at h
    replace h := bnd h; obtain ⟨oo, h1, h⟩ := h
    refine sv_seq ((exS_ok a g hs.1 _ _ h1).mono fun o' eo => ?_)
    subst eo
    cases o' with
    | nx ρ3 => exact exS_ok b g hs.2 _ _ h
    | ct ρ3 => exact Option.some.inj h
    | bk ρ3 => exact Option.some.inj h
    | rt ρ3 r => exact Option.some.inj h
    | ex C ρ3 => exact Option.some.inj h
  | .fz i s, g, hs, ρ, o, h => by
    unfold exS at h
    split at h
    · rename_i ds q
      split at h
      · cases h
      · exact sv_frz q (exS_ok s g hs _ _ h) ‹_›
    · exact exS_ok s g hs _ _ h
  | .retD i, g, hs, ρ, o, h => by
    unfold exS at h
    replace h := bnd h; obtain ⟨kvs, hk, h⟩ := h
    split at h
    · cases h
    · cases h
      exact sv_retOwn (ownD_eq hk) rfl ‹_›
  | .fzD i s, g, hs, ρ, o, h => by
    unfold exS at h
    split at h
    · rename_i ds q
      split at h
      · cases h
      · exact sv_frzD q (exS_ok s g hs _ _ h) ‹_›
    · exact exS_ok s g hs _ _ h
  | .lk i s, g, hs, ρ, o, h => by
    unfold exS at h
    replace h := bnd h; obtain ⟨kvs, hk, h⟩ := h
    split at h
    · cases h
    rename_i hp
    replace h := bnd h; obtain ⟨oo, h1, h⟩ := h
    refine sv_lock (ownD_eq hk) hp ((exS_ok s ⟨g.K, i :: g.ps, g.xe⟩ hs _ _ h1).mono fun o' eo => ?_)
    subst eo
    cases o' with
    | nx ρ3 =>
      replace h := bnd h; obtain ⟨kvs', hk', h⟩ := h
      split at h
      · rename_i hn
        cases h
        exact ⟨ρ3, kvs', rfl, ownF_eq hk', noF_eq hn, rfl⟩
      · cases h
    | _ => cases h
  | .never, g, hs, ρ, o, h => by cases h
  | .tryK b i S kd tbl, g, hs, ρ, o, h => by
    unfold exS at h
    replace h := bnd h; obtain ⟨ob, h1, h⟩ := h
    refine fun c F H σ Dn k s p => evB_ok b _ _ h1 c F H σ Dn k s (fun ρ' F' H' σ' z a d => ?_) (fun ρ' F' H' σ' v r z a d e => ?_) fun C ρ' F' H' σ' z a d => ?_
    · subst z; cases h
    · subst z
      cases h
      exact p.rt ρ' F' H' σ' v r rfl a d e
    · subst z
      replace h := bnd h; obtain ⟨ws, hw, h⟩ := h
      split at h
      · rename_i hi
        cases h
        exact kind_lands (H := H) (ρ := ρ) (hs _ (tbl_mem hw)) p rfl (by rw [a.len]; exact hi) a d
      · cases h
  | .tryN b i S cs l, g, hs, ρ, o, h => by
    unfold exS at h
    replace h := bnd h; obtain ⟨ob, h1, h⟩ := h
    refine fun c F H σ Dn k s p => evB_ok b _ _ h1 c F H σ Dn k s (fun ρ' F' H' σ' z a d => ?_) (fun ρ' F' H' σ' v r z a d e => ?_) fun C ρ' F' H' σ' z a d => ?_
    · subst z; cases h; exact p.nx _ F' H' σ' rfl a d
    · subst z; cases h; exact p.rt _ F' H' σ' v r rfl a d e
    · subst z
      change (if C ∈ cs ∧ i < ρ'.length ∧ i ∉ g.ps then _ else _) = _ at h
      split at h
      · rename_i hh
        replace h := mpd h; obtain ⟨dd, hd, h⟩ := h
        subst h
        exact nmd_lands hs.1 hh.1 k hh.2.1 hh.2.2 p rfl a d hs.2 hd
      · cases h
  | .mv i j, g, hs, ρ, o, h => by
    unfold exS at h
    replace h := bnd h; obtain ⟨kvs, hk, h⟩ := h
    split at h
    · rename_i hh
      cases h
      exact sv_move (ownD_eq hk) (fun ks z => by cases z) rfl hh.1 hh.2.1 hh.2.2
    · cases h
  | .aug i e, g, hs, ρ, o, h => by
    unfold exS at h
    replace h := bnd h; obtain ⟨d0, h0, h⟩ := h
    replace h := bnd h; obtain ⟨m, hm, h⟩ := h
    replace h := bnd h; obtain ⟨⟨va, ρ1⟩, h1, h⟩ := h
    replace h := bnd h; obtain ⟨d, hd, h⟩ := h
    replace h := bnd h; obtain ⟨n, hn, h⟩ := h
    split at h
    · rename_i hh
      cases h
      cases asI_eq hm
      cases asI_eq hn
      have e0 : ρ[i]? = some (.dat (.int m)) := by
        split at h0
        · rename_i q; cases h0; exact q
        · cases h0
      exact sv_aug e0 (toD_ok (evE_ok e _ _ _ h1) hd) rfl hh.1 hh.2
    · cases h
  | .raise C, g, hs, ρ, o, h => by
    cases h
    exact sv_raise rfl
  | .asgX f as t, g, hs, ρ, o, h => by
    unfold exS at h
    replace h := bnd h; obtain ⟨⟨As, ρ1⟩, h1, h⟩ := h
    replace h := bnd h; obtain ⟨ds, hd, h⟩ := h
    replace h := bnd h; obtain ⟨r, hr, h⟩ := h
    cases r with
    | exc C =>
      cases h
      exact sv_asgEx (R := fun ds r => f ds = some r) (evA_ok as _ _ _ h1) hr hd rfl
    | ok r =>
      cases r with
      | dat d =>
        have k := ed_callX (E := g.xe) (R := fun ds r => f ds = some r) (evA_ok as _ _ _ h1) hr hd
        cases t with
        | nm i =>
          change (if i < ρ1.length ∧ i ∉ g.ps then _ else _) = _ at h
          split at h
          · rename_i hh; cases h; exact sv_set k rfl hh.1 hh.2
          · cases h
        | tup n ts =>
          change (setG g.ps (.tup n ts) d ρ1).map Out.nx = some o at h
          replace h := mpd h; obtain ⟨ρ2, h2, h⟩ := h
          subst h
          exact sv_asgT k (setG_ok (.tup n ts) d _ _ h2) rfl
      | new w =>
        have k := ew_callX (E := g.xe) (R := fun ds r => f ds = some r) (evA_ok as _ _ _ h1) hr hd
        cases t with
        | nm i =>
          change (if i < ρ1.length ∧ i ∉ g.ps then _ else _) = _ at h
          split at h
          · rename_i hh; cases h; exact sv_setW k rfl hh.1 hh.2
          · cases h
        | tup n ts => cases h
  | .dropX f as, g, hs, ρ, o, h => by
    unfold exS at h
    replace h := bnd h; obtain ⟨⟨As, ρ1⟩, h1, h⟩ := h
    replace h := bnd h; obtain ⟨ds, hd, h⟩ := h
    replace h := bnd h; obtain ⟨r, hr, h⟩ := h
    cases r with
    | ok r =>
      cases r with
      | dat d =>
        cases h
        exact sv_drop (ed_callX (R := fun ds r => f ds = some r) (evA_ok as _ _ _ h1) hr hd) rfl
      | new w => cases h
    | exc C =>
      cases h
      exact sv_dropEx (R := fun ds r => f ds = some r) (evA_ok as _ _ _ h1) hr hd rfl
  | .tryC f as C i S cs, g, hs, ρ, o, h => by
    unfold exS at h
    replace h := bnd h; obtain ⟨⟨As, ρ1⟩, h1, h⟩ := h
    replace h := bnd h; obtain ⟨ds, hd, h⟩ := h
    replace h := bnd h; obtain ⟨r, hr, h⟩ := h
    cases r with
    | ok r =>
      cases r with
      | dat d =>
        cases h
        exact sv_tryOk (R := fun ds r => f ds = some r) (evA_ok as _ _ _ h1) hr hd rfl
      | new w => cases h
    | exc C' =>
      change (if C' = C ∧ i < ρ1.length then _ else _) = _ at h
      split at h
      · rename_i hh
        obtain ⟨rfl, hi⟩ := hh
        cases h
        obtain ⟨hC, k0, k1, k2, hz⟩ := hs
        exact sv_tryEx (R := fun ds r => f ds = some r) (evA_ok as _ _ _ h1) hr hd k0 (fun a σ H D hσ q => suite_ok hC k1 k2 hz a σ H D hσ q) hi rfl
      · cases h
def out1 : Out → Option RetV
  | .nx _ => some (.dat .none)
  | .rt _ r => some r
  | _ => none
def runD (st : St) (m n : Nat) (ds : List D) : Option RetV := if ds.length = m then (exS [] st (ds.map .dat ++ List.replicate (n - ds.length) .no)).bind out1 else none
def out2 : Out → Option (RetV × List D)
  | .nx ρ => (ownL ρ 0).map fun s => (.dat .none, s)
  | .rt ρ r => (ownL ρ 0).map fun s => (r, s)
  | _ => none
def runS (st : St) (m n : Nat) (s0 : List D) (ds : List D) : Option (RetV × List D) := if ds.length + 1 = m then (exS [0] st ((.own (.lst s0) :: ds.map .dat) ++ List.replicate (n - (ds.length + 1)) .no)).bind out2 else none
theorem len_D {st : St} {m n : Nat} {ds : List D} {r : RetV} (h : runD st m n ds = some r) : ds.length = m := by
  unfold runD at h
  split at h
  · assumption
  · cases h
theorem len_S {st : St} {m n : Nat} {s0 s1 ds : List D} {r : RetV} (h : runS st m n s0 ds = some (r, s1)) : ds.length + 1 = m := by
  unfold runS at h
  split at h
  · assumption
  · cases h
theorem run_D {st : St} {m : Nat} {N : List Str} {ds : List D} {r : RetV} (hs : sideS K st) (h : runD st m N.length ds = some r) : Sv (gm K []) (denS K E0 st) (rho0 N (ds.map .dat)) (RetP r) := by
  unfold runD at h
  split at h
  case isFalse => cases h
  replace h := bnd h; obtain ⟨o, h1, h⟩ := h
  have e : rho0 N (ds.map .dat) = ds.map .dat ++ List.replicate (N.length - ds.length) .no := by unfold rho0; rw [List.length_map]
  rw [e]
  refine (exS_ok st (gm K []) hs _ _ h1).mono fun o' eo => ?_
  subst eo
  cases o' with
  | nx ρ => exact (Option.some.inj h).symm
  | rt ρ r' => exact Option.some.inj h
  | _ => cases h
theorem run_S {st : St} {m : Nat} {N : List Str} {s0 s1 ds : List D} {r : RetV} (hs : sideS K st) (h : runS st m N.length s0 ds = some (r, s1)) : Sv (gm K [0]) (denS K E0 st) (rho0 N (.own (.lst s0) :: ds.map .dat)) (RetS r s1) := by
  unfold runS at h
  split at h
  case isFalse => cases h
  replace h := bnd h; obtain ⟨o, h1, h⟩ := h
  have e : rho0 N (.own (.lst s0) :: ds.map .dat) = (.own (.lst s0) :: ds.map .dat) ++ List.replicate (N.length - (ds.length + 1)) .no := by unfold rho0; simp
  rw [e]
  refine (exS_ok st (gm K [0]) hs _ _ h1).mono fun o' eo => ?_
  subst eo
  cases o' with
  | nx ρ =>
    replace h := mpd h; obtain ⟨s, h2, h⟩ := h
    cases h
    exact ⟨rfl, ownL_eq h2⟩
  | rt ρ r' =>
    replace h := mpd h; obtain ⟨s, h2, h⟩ := h
    cases h
    exact ⟨rfl, ownL_eq h2⟩
  | _ => cases h
def lamV : Vl → Option RetV
  | .d x => some (.dat x)
  | _ => none
end EV
namespace EV
open PySem PySem.Spec PyProof.Rows L2 DL
/-- no tables -/
instance (priority := low) tab0 : DL.TabC := ⟨[], [], ⟨fun _ _ => 0, { strHash := fun _ => 0, shareClass := fun _ => 0, mergeTok := id, idOf := fun _ => 0, idOfShared := fun _ _ => 0, followText := fun _ => false, idOfImm := fun _ => 0 }⟩⟩
section
variable {β : Type} {ps : List Nat} {ρ ρ' : Rho}
def aV (v : Vl) (k : DL.Arg → Option β) : Option β := (toA v).bind k
def dV (v : Vl) (k : D → Option β) : Option β := (toD v).bind k
def nA (A : DL.Arg) (ρ : Rho) (k : D → Option β) : Option β := (A.den ρ).bind k
def gE (ρ : Rho) (i : Nat) (k : Ent → Option β) : Option β := (ρ[i]?).bind k
def eL (e : Ent) (k : List D → Option β) : Option β := match e with | .own (.lst ds) => k ds | _ => none
def eD (e : Ent) (k : List (Key × D) → Option β) : Option β := match e with | .own (.dK ds) => k ds | _ => none
def eT (e : Ent) (k : List (NK × D) → Option β) : Option β := match e with | .own (.dT ds) => k ds | _ => none
def tkK (d : D) (k : NK → Option β) : Option β := (tkD d).bind k
def eF (e : Ent) (k : List (Key × D) → Option β) : Option β := match e with | .own (.dF ds) => k ds | _ => none
def eV (e : Ent) (i : Nat) (k : Vl → Option β) : Option β := match e with | .dat d => k (.d d) | .own (.lst _) => k (.o i) | _ => none
def iD (d : D) (k : Int → Option β) : Option β := (asI d).bind k
def bD (d : D) (k : Bool → Option β) : Option β := (asB d).bind k
def kD (d : D) (k : Key → Option β) : Option β := (keyD d).bind k
def zD (z : Rz) (k : D → Option β) : Option β := (asRz z).bind k
def sR (ρ : Rho) (i : Nat) (e : Ent) (k : Rho → Option β) : Option β := if i < ρ.length then k (ρ.set i e) else none
def sK (ps : List Nat) (ρ : Rho) (i : Nat) (e : Ent) (k : Rho → Option β) : Option β := if i < ρ.length ∧ i ∉ ps then k (ρ.set i e) else none
def oZ (o : Op) (d e : D) (k : Rz → Option β) : Option β := (op2 o d e).bind k
def cZ (f : Bf) (ds : List D) (k : Rz → Option β) : Option β := (cb1 f ds).bind k
def vZ (z : Rz) (k : Vl → Option β) : Option β := k (rzV z)
def xE (ps : List Nat) (e : Ex) (ρ : Rho) (k : Vl → Rho → Option β) : Option β := (evE ps e ρ).bind fun p => k p.1 p.2
def xA (ps : List Nat) (e : Exs) (ρ : Rho) (k : List DL.Arg → Rho → Option β) : Option β := (evA ps e ρ).bind fun p => k p.1 p.2
def xT (ps : List Nat) (e : Tx) (ρ : Rho) (k : Bool → Rho → Option β) : Option β := (evT ps e ρ).bind fun p => k p.1 p.2
def xP (ps : List Nat) (e : Px) (ρ : Rho) (k : Option Int → Rho → Option β) : Option β := (evP ps e ρ).bind fun p => k p.1 p.2
def xI (ps : List Nat) (e : Ix) (ρ : Rho) (k : List D → Rho → Option β) : Option β := (evI ps e ρ).bind fun p => k p.1 p.2
def kS (o : Out) (kn : Rho → Option β) (ka : Out → Option β) : Option β := match o with | .nx ρ => kn ρ | o => ka o
def xS (ps : List Nat) (st : EV.St) (ρ : Rho) (kn : Rho → Option β) (ka : Out → Option β) : Option β := (exS ps st ρ).bind fun o => kS o kn ka
def xR (ps : List Nat) (e : RE) (ρ : Rho) (kv : Vl → Rho → Option β) (kx : Addr → Rho → Option β) : Option β := (evR ps e ρ).bind fun r => match r with
  | .inl p => kv p.1 p.2
  | .inr q => kx q.1 q.2
def xB (ps : List Nat) (b : TB) (ρ : Rho) (ko : Out → Option β) (kx : Addr → Rho → Option β) : Option β := (evB ps b ρ).bind fun o => match o with
  | .ex C ρ' => kx C ρ'
  | o => ko o
def xG (ps : List Nat) (t : EV.Tg) (d : D) (ρ : Rho) (k : Rho → Option β) : Option β := (setG ps t d ρ).bind k
def xGs (ps : List Nat) (t : EV.Tgs) (d : List D) (ρ : Rho) (k : Rho → Option β) : Option β := (setGs ps t d ρ).bind k
def trn (ps : List Nat) (t : EV.Tg) (b : EV.St) (x : D) (ρ : Rho) : Option Out := (setG ps t x ρ).bind fun ρ1 => exS ps b ρ1
def ltn (ps : List Nat) (j : Nat) (t : Tx) (e : Ex) (x : D) (ρ' : Rho) : Option (Option D × Rho) := if j < ρ'.length then (evT ps t (ρ'.set j (.dat x))).bind fun q => if q.1 then (evE ps e q.2).bind fun r => (toD r.1).map fun d => (some d, r.2.set j .no) else some (none, q.2.set j .no) else none
def ltf (ps : List Nat) (j : Nat) (e : Ex) (y : D) (ρ2 : Rho) : Option (Option D × Rho) := if j < ρ2.length then (evE ps e (ρ2.set j (.dat y))).bind fun r => (toD r.1).map fun d => (some d, r.2.set j .no) else none
def ltt (ps : List Nat) (i : Nat) (it1 : Ix) (j : Nat) (e : Ex) (x : D) (ρ' : Rho) : Option (List D × Rho) := if i < ρ'.length ∧ j < ρ'.length then (evI ps it1 (ρ'.set i (.dat x))).bind fun q => (lcGo (ltf ps j e) q.1 (q.2.set j .no)).map fun r => (r.1, (r.2.set i .no).set j .no) else none
def llK (f : D → Rho → Option (List D × Rho)) (l : List D) (ρ : Rho) (k : List D → Rho → Option β) : Option β := (lccGo f l ρ).bind fun r => if r.1.length < sizeLine then k r.1 r.2 else none
def ltn2 (ps : List Nat) (i j : Nat) (t : Tx) (e : Ex) (x : D) (ρ' : Rho) : Option (Option D × Rho) := if i < ρ'.length ∧ j < ρ'.length then (two x).bind fun y => (evT ps t ((ρ'.set i (.dat y.1)).set j (.dat y.2))).bind fun q => if q.1 then (evE ps e q.2).bind fun r => (toD r.1).map fun d => (some d, (r.2.set i .no).set j .no) else some (none, (q.2.set i .no).set j .no) else none
def fK (f : D → Rho → Option Out) (l : List D) (ρ : Rho) (k : Out → Option β) : Option β := (forGo f l ρ).bind k
def lK (f : D → Rho → Option (Option D × Rho)) (l : List D) (ρ : Rho) (k : List D → Rho → Option β) : Option β := (lcGo f l ρ).bind fun p => k p.1 p.2
def wK (t : Tx) (b : EV.St) (ps : List Nat) (n : Nat) (ρ : Rho) (k : Out → Option β) : Option β := (whGo (fun ρ' => evT ps t ρ') (fun ρ' => exS ps b ρ') n ρ).bind k
def cK (f : List D → Option RetV) (ds : List D) (k : Vl → Option β) : Option β := (f ds).bind fun r => k (rvV r)
/-- a def that may raise -/
def cX (f : List D → Option RetX) (ds : List D) (kd : D → Option β) (kx : Addr → Option β) : Option β := (f ds).bind fun r => match r with | .ok (.dat d) => kd d | .exc C => kx C | _ => none
def cXN (f : List D → Option RetX) (ds : List D) (kv : Vl → Option β) (kx : Addr → Option β) : Option β := (f ds).bind fun r => match r with | .ok r => kv (rvV r) | .exc C => kx C
def yV (v : Vl) (k : D → Option β) : Option β := match v with | .d d => k d | _ => none
def cKS (f : List D → List D → Option (RetV × List D)) (st ds : List D) (k : Vl → List D → Option β) : Option β := (f st ds).bind fun r => k (rvV r.1) r.2
def aI (ds : List D) (i : Int) (k : D → Option β) : Option β := (atI ds i).bind k
def nI (n : Nat) (i : Int) (k : Nat → Option β) : Option β := (ixN n i).bind k
def dA (As : List DL.Arg) (k : List D → Option β) : Option β := (datas As).bind k
def dN (As : List DL.Arg) (ρ : Rho) (k : List D → Option β) : Option β := (dens ρ As).bind k
def lD (d : D) (k : List D → Option β) : Option β := match d with | .list ds => k ds | _ => none
def sD (d : D) (k : List D → Option β) : Option β := match d with | .list ds => k ds | .tuple ds => k ds | _ => none
def tD (d : D) (k : List D → Option β) : Option β := match d with | .tuple ds => k ds | _ => none
variable {k : Vl → Option β} {kd : D → Option β} {ka : DL.Arg → Option β} {kr : Rho → Option β} {ke : Ent → Option β} {kl : List D → Option β} {kx : List (Key × D) → Option β} {ki : Int → Option β} {kb : Bool → Option β} {kk : Key → Option β} {kz : Rz → Option β} {kn : Nat → Option β}
theorem aV_d {x : D} : aV (.d x) ka = ka (.d x) := rfl
theorem aV_o {i : Nat} : aV (.o i) ka = ka (.o i) := rfl
theorem aV_n {ds : List D} : aV (.n ds) ka = ka (.d (.list ds)) := rfl
theorem aV_w {ds : List D} : aV (.w (.lst ds)) ka = ka (.d (.list ds)) := rfl
theorem dV_d {x : D} : dV (.d x) kd = kd x := rfl
theorem dV_n {ds : List D} : dV (.n ds) kd = kd (.list ds) := rfl
theorem aV_wD {kvs : List (Key × D)} : aV (.w (.dK kvs)) ka = ka (.d (.dict (kvE kvs))) := rfl
theorem dV_wD {kvs : List (Key × D)} : dV (.w (.dK kvs)) kd = kd (.dict (kvE kvs)) := rfl
theorem dV_w {ds : List D} : dV (.w (.lst ds)) kd = kd (.list ds) := rfl
theorem gE_0 {e : Ent} : gE (e :: ρ) 0 ke = ke e := rfl
theorem gE_s {e : Ent} {i : Nat} : gE (e :: ρ) (i + 1) ke = gE ρ i ke := rfl
theorem eL_l {ds : List D} : eL (.own (.lst ds)) kl = kl ds := rfl
theorem eD_l {ds : List (Key × D)} : eD (.own (.dK ds)) kx = kx ds := rfl
theorem eV_d {d : D} {i : Nat} : eV (.dat d) i k = k (.d d) := rfl
theorem eV_l {ds : List D} {i : Nat} : eV (.own (.lst ds)) i k = k (.o i) := rfl
theorem nA_d {x : D} : nA (.d x) ρ kd = kd x := rfl
theorem nA_o {i : Nat} : nA (.o i) ρ kd = gE ρ i fun e => eL e fun ds => kd (.list ds) := by
  unfold nA gE eL
  simp only [DL.Arg.den]
  cases h : ρ[i]? with
  | none => rfl
  | some e =>
    cases e with
    | own w => cases w <;> rfl
    | _ => rfl
theorem iD_i {i : Int} : iD (.int i) ki = ki i := rfl
theorem bD_b {b : Bool} : bD (.bool b) kb = kb b := rfl
theorem kD_i {i : Int} : kD (.int i) kk = kk (.inl i) := rfl
theorem kD_s {i : Str} : kD (.str i) kk = kk (.inr i) := rfl
theorem zD_d {z : D} : zD (.d z) kd = kd z := rfl
theorem vZ_d {z : D} : vZ (.d z) k = k (.d z) := rfl
theorem vZ_n {z : List D} : vZ (.n z) k = k (.n z) := rfl
theorem sR_0 {e x : Ent} : sR (e :: ρ) 0 x kr = kr (x :: ρ) := rfl
theorem sR_s {e x : Ent} {i : Nat} : sR (e :: ρ) (i + 1) x kr = sR ρ i x fun ρ' => kr (e :: ρ') := by
  unfold sR
  simp
theorem sK_n {i : Nat} {e : Ent} : sK [] ρ i e kr = sR ρ i e kr := by
  unfold sK sR
  simp
theorem sK_0 {i : Nat} {e : Ent} : sK [0] ρ (i + 1) e kr = sR ρ (i + 1) e kr := by
  unfold sK sR
  simp
theorem sK_j {i j : Nat} {e : Ent} (h : i ≠ j) : sK [j] ρ i e kr = sR ρ i e kr := by
  unfold sK sR
  simp [h]
theorem eF_l {ds : List (Key × D)} {kx : List (Key × D) → Option β} : eF (.own (.dF ds)) kx = kx ds := rfl
theorem eT_l {ds : List (NK × D)} {kx : List (NK × D) → Option β} : eT (.own (.dT ds)) kx = kx ds := rfl
theorem noF_dT {ds : List (NK × D)} {ρ : Rho} : noF (.own (.dT ds) :: ρ) = noF ρ := rfl
theorem noF_nil : noF [] = true := rfl
theorem noF_dat {d : D} {ρ : Rho} : noF (.dat d :: ρ) = noF ρ := rfl
theorem noF_no {ρ : Rho} : noF (.no :: ρ) = noF ρ := rfl
theorem noF_lst {ds : List D} {ρ : Rho} : noF (.own (.lst ds) :: ρ) = noF ρ := rfl
theorem noF_dK {ds : List (Key × D)} {ρ : Rho} : noF (.own (.dK ds) :: ρ) = noF ρ := rfl
theorem lD_l {ds : List D} : lD (.list ds) kl = kl ds := rfl
theorem sD_l {ds : List D} : sD (.list ds) kl = kl ds := rfl
theorem sD_t {ds : List D} : sD (.tuple ds) kl = kl ds := rfl
theorem tD_t {ds : List D} : tD (.tuple ds) kl = kl ds := rfl
theorem dA_nil : dA [] kl = kl [] := rfl
theorem dA_d {x : D} {As : List DL.Arg} : dA (.d x :: As) kl = dA As fun ds => kl (x :: ds) := by
  unfold dA
  rw [datas]
  cases datas As <;> rfl
theorem dN_nil : dN [] ρ kl = kl [] := rfl
theorem dN_c {A : DL.Arg} {As : List DL.Arg} : dN (A :: As) ρ kl = nA A ρ fun d => dN As ρ fun ds => kl (d :: ds) := by
  unfold dN nA
  rw [dens]
  cases A.den ρ with
  | none => rfl
  | some d => cases dens ρ As <;> rfl
theorem oZ_addI {i j : Int} : oZ .add (.int i) (.int j) kz = kz (.d (.int (i + j))) := rfl
theorem oZ_addS {i j : Str} (h : i.length + j.length ≤ sizeLine) : oZ .add (.str i) (.str j) kz = kz (.d (.str (i ++ j))) := by show Option.bind (if _ then _ else none) _ = _; rw [if_pos h]; rfl
theorem oZ_addT {i j : List D} (h : i.length + j.length ≤ sizeLine) : oZ .add (.tuple i) (.tuple j) kz = kz (.d (.tuple (i ++ j))) := by show Option.bind (if _ then _ else none) _ = _; rw [if_pos h]; rfl
theorem oZ_addL {i j : List D} (h : i.length + j.length ≤ sizeLine) : oZ .add (.list i) (.list j) kz = kz (.n (i ++ j)) := by show Option.bind (if _ then _ else none) _ = _; rw [if_pos h]; rfl
theorem oZ_sub {i j : Int} : oZ .sub (.int i) (.int j) kz = kz (.d (.int (i - j))) := rfl
theorem oZ_mul {i j : Int} (h : (-(2 ^ 64) < i ∧ i < 2 ^ 64) ∨ (-(2 ^ 64) < j ∧ j < 2 ^ 64)) : oZ .mul (.int i) (.int j) kz = kz (.d (.int (i * j))) := by show Option.bind (if _ then _ else none) _ = _; rw [if_pos h]; rfl
theorem oZ_mulT {xs : List D} {j : Int} (h : -(2 ^ 63) ≤ j ∧ j ≤ 1000 ∧ xs.length ≤ 1000) : oZ .mul (.tuple xs) (.int j) kz = kz (.d (.tuple (List.replicate j.toNat xs).flatten)) := by show Option.bind (if _ then _ else none) _ = _; rw [if_pos h]; rfl
theorem oZ_mulL {xs : List D} {j : Int} (h : -(2 ^ 63) ≤ j ∧ j ≤ 1000 ∧ xs.length ≤ 1000) : oZ .mul (.list xs) (.int j) kz = kz (.n (List.replicate j.toNat xs).flatten) := by show Option.bind (if _ then _ else none) _ = _; rw [if_pos h]; rfl
theorem oZ_fdiv {i j : Int} (h : 0 < j ∧ j < 1073741824) : oZ .fdiv (.int i) (.int j) kz = kz (.d (.int (i / j))) := by show Option.bind (if _ then _ else none) _ = _; rw [if_pos h]; rfl
theorem oZ_mod {i j : Int} (h : 0 < j) : oZ .mod (.int i) (.int j) kz = kz (.d (.int (i % j))) := by show Option.bind (if _ then _ else none) _ = _; rw [if_pos h]; rfl
theorem oZ_pow {i j : Int} (h : 0 ≤ j ∧ j ≤ 1000000 ∧ i.natAbs < 2 ^ 64) : oZ .pow (.int i) (.int j) kz = kz (.d (.int (i ^ j.toNat))) := by show Option.bind (if _ then _ else none) _ = _; rw [if_pos h]; rfl
theorem oZ_eqI {i j : Int} : oZ .eq (.int i) (.int j) kz = kz (.d (.bool (decide (i = j)))) := by
  show kz (.d (.bool (i == j))) = _
  congr
theorem oZ_neI {i j : Int} : oZ .ne (.int i) (.int j) kz = kz (.d (.bool (!decide (i = j)))) := by
  show kz (.d (.bool (!(i == j)))) = _
  congr
theorem oZ_eq {d e : D} (h : SeqAt.shaped d = true) (h2 : SeqAt.shaped e = true) : oZ .eq d e kz = kz (.d (.bool (PyData.eqv d e))) := by
  have : op2 .eq d e = some (.d (.bool (PyData.eqv d e))) := by
    cases d <;> first | exact if_pos (c := SeqAt.shaped _ = true ∧ SeqAt.shaped _ = true) ⟨h, h2⟩ | (cases e <;> first | rfl | exact if_pos (c := SeqAt.shaped _ = true ∧ SeqAt.shaped _ = true) ⟨h, h2⟩)
  unfold oZ
  rw [this]; rfl
theorem oZ_eqS {i j : Str} : oZ .eq (.str i) (.str j) kz = kz (.d (.bool (i == j))) := rfl
theorem oZ_ne {d e : D} (h : SeqAt.shaped d = true) (h2 : SeqAt.shaped e = true) : oZ .ne d e kz = kz (.d (.bool (!PyData.eqv d e))) := by
  have : op2 .ne d e = some (.d (.bool (!PyData.eqv d e))) := by
    cases d <;> first | exact if_pos (c := SeqAt.shaped _ = true ∧ SeqAt.shaped _ = true) ⟨h, h2⟩ | (cases e <;> first | rfl | exact if_pos (c := SeqAt.shaped _ = true ∧ SeqAt.shaped _ = true) ⟨h, h2⟩)
  unfold oZ
  rw [this]; rfl
theorem oZ_neS {i j : Str} : oZ .ne (.str i) (.str j) kz = kz (.d (.bool (!(i == j)))) := rfl
theorem oZ_lt {i j : Int} : oZ .lt (.int i) (.int j) kz = kz (.d (.bool (decide (i < j)))) := rfl
theorem oZ_le {i j : Int} : oZ .le (.int i) (.int j) kz = kz (.d (.bool (decide (i ≤ j)))) := rfl
theorem oZ_gt {i j : Int} : oZ .gt (.int i) (.int j) kz = kz (.d (.bool (decide (j < i)))) := rfl
theorem oZ_ge {i j : Int} : oZ .ge (.int i) (.int j) kz = kz (.d (.bool (decide (j ≤ i)))) := rfl
theorem oZ_ninL {d : D} {ds : List D} (h : SeqAt.shaped d = true) (h2 : SeqAt.shaped (.list ds) = true) : oZ .notIn d (.list ds) kz = kz (.d (.bool (!inD d ds))) := by show Option.bind (if _ then _ else none) _ = _; rw [if_pos ⟨h, h2⟩]; rfl
theorem oZ_ixL {ds : List D} {i : Int} : oZ .ix (.list ds) (.int i) kz = aI ds i fun d => kz (.d d) := by
  show Option.bind ((atI ds i).map Rz.d) kz = (atI ds i).bind fun d => kz (.d d)
  rw [Option.bind_map]; rfl
theorem oZ_ixT {ds : List D} {i : Int} : oZ .ix (.tuple ds) (.int i) kz = aI ds i fun d => kz (.d d) := by
  show Option.bind ((atI ds i).map Rz.d) kz = (atI ds i).bind fun d => kz (.d d)
  rw [Option.bind_map]; rfl
theorem aI_0 {d : D} {ds : List D} : aI (d :: ds) 0 kd = kd d := by
  unfold aI atI ixN
  simp
theorem aI_1 {a d : D} {ds : List D} : aI (a :: d :: ds) 1 kd = kd d := by
  unfold aI
  rw [atI_in (by omega) (by simp only [List.length_cons]; omega)]; rfl
theorem aI_2 {a b d : D} {ds : List D} : aI (a :: b :: d :: ds) 2 kd = kd d := by
  unfold aI
  rw [atI_in (by omega) (by simp only [List.length_cons]; omega)]; rfl
theorem aI_in {ds : List D} {i : Int} (h0 : 0 ≤ i) (h1 : i < ds.length) : aI ds i kd = kd (nthD ds i.toNat) := by
  unfold aI
  rw [atI_in h0 h1]; rfl
theorem nI_in {n : Nat} {i : Int} (h0 : 0 ≤ i) (h1 : i < n) : nI n i kn = kn i.toNat := by
  unfold nI ixN
  rw [if_pos h0, if_pos h1]; rfl
theorem nI_0 {n : Nat} (h : 0 < n) : nI n 0 kn = kn 0 := nI_in (i := 0) (by omega) (by omega)
theorem nI_1 {n : Nat} (h : 1 < n) : nI n 1 kn = kn 1 := nI_in (i := 1) (by omega) (by omega)
theorem cZ_lenL {ds : List D} : cZ .len [.list ds] kz = kz (.d (.int ds.length)) := rfl
theorem cZ_lenT {ds : List D} : cZ .len [.tuple ds] kz = kz (.d (.int ds.length)) := rfl
theorem cZ_lenLm {α : Type} {f : α → D} {xs : List α} : cZ .len [.list (xs.map f)] kz = kz (.d (.int xs.length)) := by rw [cZ_lenL, List.length_map]
theorem cZ_lenTm {α : Type} {f : α → D} {xs : List α} : cZ .len [.tuple (xs.map f)] kz = kz (.d (.int xs.length)) := by rw [cZ_lenT, List.length_map]
theorem cZ_abs {i : Int} : cZ .abs [.int i] kz = kz (.d (.int (if i < 0 then -i else i))) := rfl
theorem cZ_int {i : Int} : cZ .int [.int i] kz = kz (.d (.int i)) := rfl
theorem cZ_intB {i : Bool} : cZ .int [.bool i] kz = kz (.d (.int (if i then 1 else 0))) := rfl
theorem cZ_tup {ds : List D} : cZ .tuple [.list ds] kz = kz (.d (.tuple ds)) := rfl
theorem cZ_lstL {ds : List D} : cZ .list [.list ds] kz = kz (.n ds) := rfl
theorem cZ_lstT {ds : List D} : cZ .list [.tuple ds] kz = kz (.n ds) := rfl
theorem cZ_all {bs : List Bool} : cZ .all [.list (bs.map .bool)] kz = kz (.d (.bool (bs.all id))) := by show Option.bind (Option.map _ (boolsOf _)) _ = _; rw [boolsOf_map]; rfl
theorem cZ_any {bs : List Bool} : cZ .any [.list (bs.map .bool)] kz = kz (.d (.bool (bs.any id))) := by show Option.bind (Option.map _ (boolsOf _)) _ = _; rw [boolsOf_map]; rfl
theorem cZ_max2 {i j : Int} : cZ .max [.int i, .int j] kz = kz (.d (.int (if j > i then j else i))) := rfl
theorem cZ_min2 {i j : Int} : cZ .min [.int i, .int j] kz = kz (.d (.int (if j < i then j else i))) := rfl
theorem cZ_sum {ns : List Int} : cZ .sum [.list (ns.map .int)] kz = kz (.d (.int ns.sum)) := by show Option.bind (Option.map _ (intsOf _)) _ = _; rw [intsOf_map]; rfl
theorem sortD_ints (ns : List Int) : sortD (ns.map .int) = some ((sortI ns).map .int) := by unfold sortD; rw [intsOf_map]
theorem cZ_sorted {ns : List Int} : cZ .sorted [.list (ns.map .int)] kz = kz (.n ((sortI ns).map .int)) := by show Option.bind (Option.map _ (sortD _)) _ = _; rw [sortD_ints]; rfl
end
end EV
namespace EV
open PySem PySem.Spec PyProof.Rows L2 DL
section
variable {β : Type} {ps : List Nat} {ρ ρ' : Rho} {k : Vl → Rho → Option β} {kA : List DL.Arg → Rho → Option β} {kT : Bool → Rho → Option β} {kP : Option Int → Rho → Option β} {kI : List D → Rho → Option β} {kn : Rho → Option β} {ka : Out → Option β} {kO : Out → Option β}
theorem bm {α γ : Type} {o : Option α} {f : α → γ} {g : γ → Option β} : (o.map f).bind g = o.bind fun a => g (f a) := by cases o <;> rfl
theorem xE_int {i : Int} : xE ps (.int i) ρ k = k (.d (.int i)) ρ := rfl
theorem xE_bl {i : Bool} : xE ps (.bl i) ρ k = k (.d (.bool i)) ρ := rfl
theorem xE_str {i : Str} : xE ps (.str i) ρ k = k (.d (.str i)) ρ := rfl
theorem xE_non : xE ps .non ρ k = k (.d .none) ρ := rfl
theorem xE_var {i : Nat} : xE ps (.var i) ρ k = gE ρ i fun e => eV e i fun v => k v ρ := by
  unfold xE gE eV
  simp only [evE, varV]
  cases h : ρ[i]? with
  | none => rfl
  | some e =>
    cases e with
    | own w => cases w <;> rfl
    | _ => rfl
theorem xE_op {o : Op} {a b : Ex} : xE ps (.op o a b) ρ k = xE ps a ρ fun v ρ1 => aV v fun A => xE ps b ρ1 fun w ρ2 => aV w fun B => nA A ρ2 fun d => nA B ρ2 fun e => oZ o d e fun z => vZ z fun v => k v ρ2 := by
  simp only [xE, aV, nA, oZ, vZ, evE, Option.bind_assoc, bm]
theorem xE_neg {a : Ex} : xE ps (.neg a) ρ k = xE ps a ρ fun v ρ1 => aV v fun A => nA A ρ1 fun d => iD d fun i => k (.d (.int (-i))) ρ1 := by
  simp only [xE, aV, nA, iD, evE, Option.bind_assoc, bm]
theorem xE_nt {a : Ex} : xE ps (.nt a) ρ k = xE ps a ρ fun v ρ1 => dV v fun d => bD d fun b => k (.d (.bool (!b))) ρ1 := by
  simp only [xE, dV, bD, evE, Option.bind_assoc, bm]
theorem iteb {α : Type} {c : Prop} [Decidable c] {x y : Option α} {f : α → Option β} : (if c then x else y).bind f = if c then x.bind f else y.bind f := by split <;> rfl
theorem xE_an {a b : Ex} : xE ps (.an a b) ρ k = xE ps a ρ fun v ρ1 => dV v fun d => bD d fun x => if x = true then xE ps b ρ1 fun w ρ2 => dV w fun e => bD e fun y => k (.d (.bool y)) ρ2 else k (.d (.bool false)) ρ1 := by
  simp only [xE, dV, bD, evE, Option.bind_assoc, bm, iteb]
  rfl
theorem xE_or {a b : Ex} : xE ps (.or a b) ρ k = xE ps a ρ fun v ρ1 => dV v fun d => bD d fun x => if x = true then k (.d (.bool true)) ρ1 else xE ps b ρ1 fun w ρ2 => dV w fun e => bD e fun y => k (.d (.bool y)) ρ2 := by
  simp only [xE, dV, bD, evE, Option.bind_assoc, bm, iteb]
  rfl
theorem xE_ch {o o' : Op} {a b c : Ex} : xE ps (.ch o o' a b c) ρ k = xE ps a ρ fun v ρ1 => aV v fun A => xE ps b ρ1 fun w ρ2 => aV w fun B => nA A ρ2 fun d => nA B ρ2 fun e => oZ o d e fun z => zD z fun z => bD z fun x =>
    if x = true then xE ps c ρ2 fun u ρ3 => aV u fun C => nA B ρ3 fun e => nA C ρ3 fun f => oZ o' e f fun z => zD z fun z => bD z fun y => k (.d (.bool y)) ρ3 else k (.d (.bool false)) ρ2 := by
  simp only [xE, aV, nA, oZ, zD, bD, evE, Option.bind_assoc, bm, iteb]
  rfl
theorem xE_isN {a : Ex} : xE ps (.isN a) ρ k = xE ps a ρ fun v ρ1 => dV v fun d => k (.d (.bool (!notNone d))) ρ1 := by
  simp only [xE, dV, evE, Option.bind_assoc, bm]
theorem xE_notN {a : Ex} : xE ps (.notN a) ρ k = xE ps a ρ fun v ρ1 => dV v fun d => k (.d (.bool (notNone d))) ρ1 := by
  simp only [xE, dV, evE, Option.bind_assoc, bm]
theorem xE_ife {t : Tx} {a b : Ex} : xE ps (.ife t a b) ρ k = xT ps t ρ fun x ρ1 => if x = true then xE ps a ρ1 k else xE ps b ρ1 k := by
  simp only [xE, xT, evE, Option.bind_assoc, bm, iteb]
theorem xE_tup {as : Exs} : xE ps (.tup as) ρ k = xA ps as ρ fun As ρ1 => dA As fun ds => if ds.length ≤ sizeLine then k (.d (.tuple ds)) ρ1 else none := by
  simp only [xE, xA, dA, evE, Option.bind_assoc, bm, iteb]
  rfl
theorem xE_lst {as : Exs} : xE ps (.lst as) ρ k = xA ps as ρ fun As ρ1 => dA As fun ds => if ds.length ≤ sizeLine then k (.n ds) ρ1 else none := by
  simp only [xE, xA, dA, evE, Option.bind_assoc, bm, iteb]
  rfl
theorem xE_sl {a : Ex} {lo hi : Px} : xE ps (.sl a lo hi) ρ k = xE ps a ρ fun v ρ1 => aV v fun A => xP ps lo ρ1 fun l ρ2 => xP ps hi ρ2 fun h ρ3 => nA A ρ3 fun d => (sl1 d l h).bind fun z => vZ z fun v => k v ρ3 := by
  simp only [xE, xP, aV, nA, vZ, evE, Option.bind_assoc, bm]
theorem sl1_T {ds : List D} {lo hi : Option Int} {kz : Rz → Option β} : (sl1 (.tuple ds) lo hi).bind kz = kz (.d (.tuple (cutD ds lo hi))) := rfl
theorem sl1_L {ds : List D} {lo hi : Option Int} {kz : Rz → Option β} : (sl1 (.list ds) lo hi).bind kz = kz (.n (cutD ds lo hi)) := rfl
theorem xE_cb {f : Bf} {as : Exs} : xE ps (.cb f as) ρ k = xA ps as ρ fun As ρ1 => dN As ρ1 fun ds => cZ f ds fun z => vZ z fun v => k v ρ1 := by
  simp only [xE, xA, dN, cZ, vZ, evE, Option.bind_assoc, bm]
theorem xE_isa {a : Ex} {T : String} : xE ps (.isa a T) ρ k = xE ps a ρ fun v ρ1 => aV v fun A => nA A ρ1 fun d => (kitN d T).bind fun b => k (.d (.bool b)) ρ1 := by
  simp only [xE, aV, nA, evE, Option.bind_assoc, bm]
theorem xE_call {f : List D → Option RetV} {as : Exs} : xE ps (.call f as) ρ k = xA ps as ρ fun As ρ1 => dA As fun ds => cK f ds fun v => k v ρ1 := by
  simp only [xE, xA, dA, cK, evE, Option.bind_assoc, bm]
theorem xE_callS {f : List D → List D → Option (RetV × List D)} {i : Nat} {as : Exs} : xE ps (.callS f i as) ρ k = gE ρ i fun e => eL e fun _ => xA ps as ρ fun As ρ1 => dA As fun ds => gE ρ1 i fun e => eL e fun st => cKS f st ds fun v st' => sR ρ1 i (.own (.lst st')) fun ρ2 => k v ρ2 := by
  have g : ∀ (ρ : Rho) (f : List D → Option β), (ownL ρ i).bind f = gE ρ i fun e => eL e f := fun ρ f => by
    unfold ownL gE eL
    cases h : ρ[i]? with
    | none => rfl
    | some e =>
      cases e with
      | own w => cases w <;> rfl
      | _ => rfl
  simp only [xE, xA, dA, cKS, evE, Option.bind_assoc, bm]
  rw [g]
  congr 1
  funext e
  congr 1
  funext s0
  congr 1
  funext p
  congr 1
  funext ds
  unfold ownL gE eL
  cases h : p.2[i]? with
  | none => rfl
  | some e =>
    cases e with
    | own w =>
      cases w with
      | lst st =>
        have hl : i < p.2.length := (List.getElem?_eq_some_iff.mp h).1
        show (f st ds).bind _ = (f st ds).bind _
        congr 1
        funext r
        unfold sR
        rw [if_pos hl]
      | _ => rfl
    | _ => rfl
def sN (ρ : Rho) (j : Nat) (kn : Rho → Option β) : Option β := kn (ρ.set j .no)
theorem sN_0 {e : Ent} : sN (e :: ρ) 0 kn = kn (.no :: ρ) := rfl
theorem sN_s {e : Ent} {j : Nat} : sN (e :: ρ) (j + 1) kn = sN ρ j fun ρ' => kn (e :: ρ') := rfl
theorem xE_lc {it : Ix} {j : Nat} {t : Tx} {e : Ex} : xE ps (.lc it j t e) ρ k = xI ps it ρ fun l ρ1 => if l.length < sizeLine ∧ j ∉ ps then sN ρ1 j fun ρ2 => lK (ltn ps j t e) l ρ2 fun ds ρ3 => k (.n ds) ρ3 else none := by
  simp only [xE, xI, lK, evE, Option.bind_assoc, bm, iteb]
  rfl
theorem xE_lc2 {it : Ix} {i j : Nat} {t : Tx} {e : Ex} : xE ps (.lc2 it i j t e) ρ k = xI ps it ρ fun l ρ1 => if l.length < sizeLine ∧ (i ∉ ps ∧ j ∉ ps) ∧ i ≠ j then sN ρ1 i fun ρ2 => sN ρ2 j fun ρ3 => lK (ltn2 ps i j t e) l ρ3 fun ds ρ3 => k (.n ds) ρ3 else none := by
  simp only [xE, xI, lK, evE, Option.bind_assoc, bm, iteb]
  rfl
theorem xE_lcc {it it1 : Ix} {i j : Nat} {e : Ex} : xE ps (.lcc it i it1 j e) ρ k = xI ps it ρ fun l ρ1 => if (i ∉ ps ∧ j ∉ ps) ∧ i ≠ j then sN ρ1 i fun ρ2 => sN ρ2 j fun ρ3 => llK (ltt ps i it1 j e) l ρ3 fun ds ρ4 => k (.n ds) ρ4 else none := by
  simp only [xE, xI, llK, evE, Option.bind_assoc, bm, iteb]
  rfl
theorem llK_s {f : D → Rho → Option (List D × Rho)} {l ds : List D} {ρ ρ' : Rho} {k : List D → Rho → Option β} (h : lccGo f l ρ = some (ds, ρ')) (hz : ds.length < sizeLine) : llK f l ρ k = k ds ρ' := by
  unfold llK
  rw [h]
  exact if_pos hz
def rvA (v : Vl) (kd : D → Option β) : Option β := match v with
  | .d d => kd d
  | _ => none
theorem rvA_d {x : D} {kd : D → Option β} : rvA (.d x) kd = kd x := rfl
theorem xE_callL {f : List D → List D → Option (RetV × List D)} {i j : Nat} : xE ps (.callL f i j) ρ k = gE ρ i fun e => eL e fun st => gE ρ j fun e2 => eL e2 fun ds => cKS f st [.list ds] fun v st' => rvA v fun d => if i ≠ j ∧ ds.all isS = true ∧ st'.all apartS = true ∧ atomD d = true then sR ρ i (.own (.lst st')) fun ρ2 => k v ρ2 else none := by
  simp only [xE, evE, cKS, Option.bind_assoc]
  unfold ownL gE eL
  cases h : ρ[i]? with
  | none => rfl
  | some e =>
    cases e with
    | own w =>
      cases w with
      | lst st =>
        have hl : i < ρ.length := (List.getElem?_eq_some_iff.mp h).1
        cases h2 : ρ[j]? with
        | none => rfl
        | some e2 =>
          cases e2 with
          | own w2 =>
            cases w2 with
            | lst ds =>
              show (f st [.list ds]).bind _ = (f st [.list ds]).bind _
              congr 1
              funext r
              obtain ⟨r1, r2⟩ := r
              cases r1 with
              | new w => rfl
              | dat d =>
                show (if _ then _ else _ : Option (Vl × Rho)).bind _ = (if _ then _ else _ : Option _)
                split
                · unfold sR
                  rw [if_pos hl]
                  rfl
                · rfl
            | _ => rfl
          | _ => rfl
      | _ => rfl
    | _ => rfl
theorem xE_lrg {a : Ex} : xE ps (.lrg a) ρ k = xE ps a ρ fun v ρ1 => dV v fun d => iD d fun n => if 0 ≤ n ∧ n ≤ 1000000 then k (.n (rgD 0 n.toNat)) ρ1 else none := by
  simp only [xE, dV, iD, evE, Option.bind_assoc, bm, iteb]
  rfl
theorem xE_trg {a : Ex} : xE ps (.trg a) ρ k = xE ps a ρ fun v ρ1 => dV v fun d => iD d fun n => if 0 ≤ n ∧ n ≤ 1000000 then k (.d (.tuple (rgD 0 n.toNat))) ρ1 else none := by
  simp only [xE, dV, iD, evE, Option.bind_assoc, bm, iteb]
  rfl
theorem gL {ρ : Rho} {i : Nat} {f : List D → Option β} : (ownL ρ i).bind f = gE ρ i fun e => eL e f := by
    unfold ownL gE eL
    cases h : ρ[i]? with
    | none => rfl
    | some e =>
      cases e with
      | own w => cases w <;> rfl
      | _ => rfl
theorem gD {ρ : Rho} {i : Nat} {f : List (Key × D) → Option β} : (ownD ρ i).bind f = gE ρ i fun e => eD e f := by
    unfold ownD gE eD
    cases h : ρ[i]? with
    | none => rfl
    | some e =>
      cases e with
      | own w => cases w <;> rfl
      | _ => rfl
def pK (ds : List D) (j : Nat) (kd : D → Option β) : Option β := (ds[j]?).bind kd
theorem sRp {i : Nat} {e : Ent} (h : i < ρ.length) : sR ρ i e kn = kn (ρ.set i e) := by unfold sR; rw [if_pos h]
theorem ownLt {ds : List D} {i : Nat} (h : ownL ρ i = some ds) : i < ρ.length := (List.getElem?_eq_some_iff.mp (ownL_eq h)).1
theorem ownDt {ds : List (Key × D)} {i : Nat} (h : ownD ρ i = some ds) : i < ρ.length := (List.getElem?_eq_some_iff.mp (ownD_eq h)).1
theorem bindE {α : Type} {o : Option α} {f f' : α → Option β} (h : ∀ a, o = some a → f a = f' a) : o.bind f = o.bind f' := by
  cases o with
  | none => rfl
  | some a => exact h a rfl
theorem xE_pop {i : Nat} {a : Ex} : xE ps (.pop i a) ρ k = gE ρ i fun e => eL e fun _ => xE ps a ρ fun v ρ1 => dV v fun d => iD d fun n => gE ρ1 i fun e => eL e fun ds => if -(2 ^ 63) ≤ n ∧ n < 2 ^ 63 then nI ds.length n fun j => pK ds j fun d => sR ρ1 i (.own (.lst (ds.eraseIdx j))) fun ρ2 => k (.d d) ρ2 else none := by
  simp only [xE, dV, iD, nI, pK, ← gL, evE, Option.bind_assoc, bm]
  refine bindE fun _ _ => bindE fun p _ => bindE fun _ _ => bindE fun _ _ => bindE fun ds h => ?_
  split
  · simp only [Option.bind_assoc, bm]
    refine bindE fun _ _ => bindE fun _ _ => ?_
    rw [sRp (ownLt h)]
  · rfl
def ixK (e : D) (ds : List D) (k : Nat → Option β) : Option β := (idxOf e ds).bind k
def ixS (e : Str) (ds : List D) (k : Nat → Option β) : Option β := (strsOf ds).bind fun xs => (idxS e xs).bind k
theorem xE_idxL {a b : Ex} : xE ps (.idxL a b) ρ k = xE ps a ρ fun v ρ1 => dV v fun d => xE ps b ρ1 fun w ρ2 => aV w fun B => nA B ρ2 fun e => lD d fun ds => if SeqAt.shaped (.list ds) = true ∧ SeqAt.shaped e = true then ixK e ds fun j => k (.d (.int (j : Nat))) ρ2 else none := by
  simp only [xE, dV, aV, nA, ixK, lD, evE, Option.bind_assoc, bm]
  refine bindE fun _ _ => bindE fun d _ => bindE fun _ _ => bindE fun _ _ => bindE fun e h => ?_
  cases d <;> try rfl
  rw [iteb]
  congr 1
  rw [bm]
def sT (d : D) (k : Str → Option β) : Option β := match d with | .str x => k x | _ => none
theorem sT_s {x : Str} {ks : Str → Option β} : sT (.str x) ks = ks x := rfl
theorem xE_idxT {a b : Ex} : xE ps (.idxT a b) ρ k = xE ps a ρ fun v ρ1 => dV v fun d => xE ps b ρ1 fun w ρ2 => aV w fun B => nA B ρ2 fun e => tD d fun ds => sT e fun x => ixS x ds fun j => k (.d (.int (j : Nat))) ρ2 := by
  simp only [xE, dV, aV, nA, ixS, tD, sT, evE, Option.bind_assoc, bm]
  refine bindE fun _ _ => bindE fun d _ => bindE fun _ _ => bindE fun _ _ => bindE fun e h => ?_
  cases d <;> try rfl
  cases e <;> try rfl
  simp only [Option.bind_assoc, bm]
def vK (kvs : List (Key × D)) (q : Key) (kd : D → Option β) : Option β := (valD kvs q).bind kd
theorem xE_dget {i : Nat} {a : Ex} : xE ps (.dget i a) ρ k = gE ρ i fun e => eD e fun _ => xE ps a ρ fun v ρ1 => dV v fun d => kD d fun q => gE ρ1 i fun e => eD e fun kvs => vK kvs q fun d => k (.d d) ρ1 := by
  simp only [xE, dV, kD, vK, ← gD, evE, Option.bind_assoc, bm]
def tE (e : Ent) (kd : D → Option β) : Option β := match e with | .dat d => kd d | _ => none
theorem tE_d {d : D} {kd : D → Option β} : tE (.dat d) kd = kd d := rfl
theorem xE_dspV {j : Nat} {n : Int} : xE ps (.dsp (.v j) n) ρ k = gE ρ j fun e => tE e fun d => kD d fun q => k (.w (.dK [(q, .int n)])) ρ := by
  simp only [xE, evE, Option.bind_assoc, bm]
  have e1 : evK ρ (.v j) = (ρ[j]?).bind fun e => match e with | .dat d => some d | _ => none := by
    show (match ρ[j]? with | some (.dat d) => some d | _ => none) = _
    cases ρ[j]? with
    | none => rfl
    | some e => cases e <;> rfl
  rw [e1]
  unfold gE tE kD
  cases ρ[j]? with
  | none => rfl
  | some e => cases e <;> rfl
theorem xE_dspC {i n : Int} : xE ps (.dsp (.c i) n) ρ k = k (.w (.dK [(.inl i, .int n)])) ρ := rfl
theorem xE_dspM {i n : Int} : xE ps (.dsp (.m i) n) ρ k = k (.w (.dK [(.inl (-i), .int n)])) ρ := rfl
theorem xE_din {i : Nat} {a : Ex} : xE ps (.din a i) ρ k = xE ps a ρ fun v ρ1 => dV v fun d => kD d fun q => gE ρ1 i fun e => eD e fun kvs => k (.d (.bool (valD kvs q).isSome)) ρ1 := by
  simp only [xE, dV, kD, ← gD, evE, Option.bind_assoc, bm]
theorem xE_dnin {i : Nat} {a : Ex} : xE ps (.dnin a i) ρ k = xE ps a ρ fun v ρ1 => dV v fun d => kD d fun q => gE ρ1 i fun e => eD e fun kvs => k (.d (.bool (!(valD kvs q).isSome))) ρ1 := by
  simp only [xE, dV, kD, ← gD, evE, Option.bind_assoc, bm]
theorem xE_dset {i : Nat} {a b : Ex} : xE ps (.dset i a b) ρ k = gE ρ i fun e => eD e fun _ => xE ps a ρ fun v ρ1 => dV v fun d => kD d fun q => xE ps b ρ1 fun w ρ2 => dV w fun x => gE ρ2 i fun e => eD e fun kvs =>
    if kvs.length < sizeLine then sR ρ2 i (.own (.dK (if (valD kvs q).isSome then kvs else putD kvs q x))) fun ρ3 => k (.d ((valD kvs q).getD x)) ρ3 else none := by
  simp only [xE, dV, kD, ← gD, evE, Option.bind_assoc, bm]
  refine bindE fun _ _ => bindE fun _ _ => bindE fun _ _ => bindE fun _ _ => bindE fun p _ => bindE fun _ _ => bindE fun kvs h => ?_
  split
  · rw [sRp (ownDt h)]; rfl
  · rfl
theorem gT {ρ : Rho} {i : Nat} {f : List (NK × D) → Option β} : (ownT ρ i).bind f = gE ρ i fun e => eT e f := by
    unfold ownT gE eT
    cases h : ρ[i]? with
    | none => rfl
    | some e =>
      cases e with
      | own w => cases w <;> rfl
      | _ => rfl
theorem ownTt {ds : List (NK × D)} {i : Nat} (h : ownT ρ i = some ds) : i < ρ.length := (List.getElem?_eq_some_iff.mp (ownT_eq h)).1
def vT (kvs : List (NK × D)) (q : NK) (kd : D → Option β) : Option β := (valT kvs q).bind kd
theorem xE_xin {n : Bool} {i : Nat} {a : Ex} : xE ps (.xin n a i) ρ k = xE ps a ρ fun v ρ1 => dV v fun d => tkK d fun q => gE ρ1 i fun e => eT e fun kvs => k (.d (.bool (if n then !(valT kvs q).isSome else (valT kvs q).isSome))) ρ1 := by
  simp only [xE, dV, tkK, ← gT, evE, Option.bind_assoc, bm]
theorem xE_xget {i : Nat} {a : Ex} : xE ps (.xget i a) ρ k = gE ρ i fun e => eT e fun _ => xE ps a ρ fun v ρ1 => dV v fun d => tkK d fun q => gE ρ1 i fun e => eT e fun kvs => vT kvs q fun d => k (.d d) ρ1 := by
  simp only [xE, dV, tkK, vT, ← gT, evE, Option.bind_assoc, bm]
def prn (ps : List Nat) (i j : Nat) (a b : Ex) (x : D) (ρ' : Rho) : Option ((NK × D) × Rho) := if i < ρ'.length ∧ j < ρ'.length then (two x).bind fun y => (evE ps a ((ρ'.set i (.dat y.1)).set j (.dat y.2))).bind fun q => (toD q.1).bind fun d => (tkD d).bind fun k => (evE ps b q.2).bind fun r => (toD r.1).map fun e => ((k, e), (r.2.set i .no).set j .no) else none
def pK_ (f : D → Rho → Option ((NK × D) × Rho)) (l : List D) (ρ : Rho) (kl : List (NK × D) → Rho → Option β) : Option β := (prGo f l ρ).bind fun q => kl q.1 q.2
theorem pK_s {f : D → Rho → Option ((NK × D) × Rho)} {l : List D} {ds : List (NK × D)} {ρ' : Rho} {kl : List (NK × D) → Rho → Option β} (h : prGo f l ρ = some (ds, ρ')) : pK_ f l ρ kl = kl ds ρ' := by unfold pK_; rw [h]; rfl
theorem xE_xdc {it : Ix} {i j : Nat} {a b : Ex} : xE ps (.xdc it i j a b) ρ k = xI ps it ρ fun l ρ1 => if l.length < sizeLine ∧ (i ∉ ps ∧ j ∉ ps) ∧ i ≠ j then sN ρ1 i fun ρ2 => sN ρ2 j fun ρ3 => pK_ (prn ps i j a b) l ρ3 fun ds ρ3 => k (.w (.dT (foldT ds))) ρ3 else none := by
  simp only [xE, xI, pK_, evE, Option.bind_assoc, bm, iteb]
  rfl
def pr1 (ps : List Nat) (i : Nat) (a b : Ex) (x : D) (ρ' : Rho) : Option ((NK × D) × Rho) := if i < ρ'.length then (evE ps a (ρ'.set i (.dat x))).bind fun q => (toD q.1).bind fun d => (tkD d).bind fun k => (evE ps b q.2).bind fun r => (toD r.1).map fun e => ((k, e), r.2.set i .no) else none
theorem xE_xd1 {it : Ix} {i : Nat} {a b : Ex} : xE ps (.xd1 it i a b) ρ k = xI ps it ρ fun l ρ1 => if l.length < sizeLine ∧ i ∉ ps then sN ρ1 i fun ρ2 => pK_ (pr1 ps i a b) l ρ2 fun ds ρ3 => k (.w (.dT (foldT ds))) ρ3 else none := by
  simp only [xE, xI, pK_, evE, Option.bind_assoc, bm, iteb]
  rfl
theorem xE_srK {i : Nat} : xE ps (.srK i) ρ k = gE ρ i fun e => eT e fun kvs => if srtOk (kvs.map fun z => z.1.data) = true then k (.n (sortedD (kvs.map fun z => z.1.data))) ρ else none := by
  simp only [xE, ← gT, evE, Option.bind_assoc, iteb]
  rfl
def hX (F : List (NestedKey × D) → D → Option Bool) (kvs : List (NK × D)) (d : D) (kb : Bool → Option β) : Option β := (F kvs d).bind kb
theorem hX_s {F : List (NestedKey × D) → D → Option Bool} {kvs : List (NK × D)} {d : D} {b : Bool} {kb : Bool → Option β} (h : F kvs d = some b) : hX F kvs d kb = kb b := by unfold hX; rw [h]; rfl
theorem xE_hasX {F : List (NestedKey × D) → D → Option Bool} {i : Nat} {a : Ex} : xE ps (.hasX F i a) ρ k = gE ρ i fun e => eT e fun _ => xE ps a ρ fun v ρ1 => dV v fun d => gE ρ1 i fun e => eT e fun kvs => hX F kvs d fun b => k (.d (.bool b)) ρ1 := by
  simp only [xE, dV, hX, ← gT, evE, Option.bind_assoc, bm]
def cL (F : List (Addr × (List D → Option RetV)) → List D → Option RetV) (lf : List D → Option RetV) (ds : List D) (kv : Vl → Option β) : Option β := (anyA fun a => F [(a, lf)] (ds ++ [fnD a])).bind fun r => kv (rvV r)
theorem xE_callLam {F : List (Addr × (List D → Option RetV)) → List D → Option RetV} {lf : List D → Option RetV} {as : Exs} : xE ps (.callLam F lf as) ρ k = xA ps as ρ fun As ρ1 => dA As fun ds => cL F lf ds fun v => k v ρ1 := by
  simp only [xE, xA, dA, cL, evE, Option.bind_assoc, bm]
def dO (d : D) (k : List (Key × D) → Option β) : Option β := (dictOf d).bind k
theorem dO_d {kvs : List (Key × D)} {k : List (Key × D) → Option β} : dO (.dict (kvE kvs)) k = k kvs := by
  show (unK (kvE kvs)).bind k = k kvs
  rw [unK_E]
  rfl
theorem xE_dinD {a b : Ex} : xE ps (.dinD a b) ρ k = xE ps a ρ fun v ρ1 => dV v fun d => kD d fun q => xE ps b ρ1 fun w ρ2 => dV w fun e => dO e fun kvs => k (.d (.bool (valD kvs q).isSome)) ρ2 := by
  simp only [xE, dV, kD, dO, evE, Option.bind_assoc, bm]
theorem xE_dninD {a b : Ex} : xE ps (.dninD a b) ρ k = xE ps a ρ fun v ρ1 => dV v fun d => kD d fun q => xE ps b ρ1 fun w ρ2 => dV w fun e => dO e fun kvs => k (.d (.bool (!(valD kvs q).isSome))) ρ2 := by
  simp only [xE, dV, kD, dO, evE, Option.bind_assoc, bm]
theorem xE_dgetD {a b : Ex} : xE ps (.dgetD a b) ρ k = xE ps a ρ fun v ρ1 => dV v fun e => dO e fun kvs => xE ps b ρ1 fun w ρ2 => dV w fun d => kD d fun q => (valD kvs q).bind fun z => k (.d z) ρ2 := by
  simp only [xE, dV, kD, dO, evE, Option.bind_assoc, bm]
theorem xE_dspb {j : Nat} {n : Bool} : xE ps (.dspb (.v j) n) ρ k = gE ρ j fun e => tE e fun d => kD d fun q => k (.w (.dK [(q, .bool n)])) ρ := by
  simp only [xE, evE, Option.bind_assoc, bm]
  have e1 : evK ρ (.v j) = (ρ[j]?).bind fun e => match e with | .dat d => some d | _ => none := by
    show (match ρ[j]? with | some (.dat d) => some d | _ => none) = _
    cases ρ[j]? with
    | none => rfl
    | some e => cases e <;> rfl
  rw [e1]
  unfold gE tE kD
  cases ρ[j]? with
  | none => rfl
  | some e => cases e <;> rfl
def kV_ (v : Vl) (k : List (Key × D) → Option β) : Option β := (dkV v).bind k
theorem kV_w {kvs : List (Key × D)} {k : List (Key × D) → Option β} : kV_ (.w (.dK kvs)) k = k kvs := rfl
theorem xI_ukd {a : Ex} : xI ps (.ukd a) ρ kI = xE ps a ρ fun v ρ1 => kV_ v fun kvs => kI (kvs.map fun q => keyOf q.1) ρ1 := by
  simp only [xE, xI, kV_, evI, Option.bind_assoc, bm]
theorem xE_fnv {a : Addr} : xE ps (.fnv a) ρ k = k (.d (fnD a)) ρ := rfl
theorem xE_callF {i : Nat} {tbl : List (Addr × (List D → Option RetV))} {as : Exs} : xE ps (.callF i tbl as) ρ k = gE ρ i fun e => tE e fun d => (asFn d).bind fun a => (tblF tbl a).bind fun f => xA ps as ρ fun As ρ1 => dA As fun ds => cK f ds fun v => k v ρ1 := by
  have t : ∀ {γ : Type} (f : D → Option γ), (datV ρ i).bind f = gE ρ i fun e => tE e f := fun f => by
    unfold gE tE datV
    cases ρ[i]? with
    | none => rfl
    | some e => cases e <;> rfl
  simp only [xE, xA, dA, cK, ← t, evE, Option.bind_assoc, bm]
theorem xE_callT {i : Nat} {tbl : List (Addr × (List D → Option RetV))} {as : Exs} : xE ps (.callT i tbl as) ρ k = gE ρ i fun e => tE e fun d => (asFn d).bind fun a => (tblF tbl a).bind fun f => xA ps as ρ fun As ρ1 => dA As fun ds => cK f ds fun v => k v ρ1 := xE_callF
theorem xE_callE {e : Ex} {tbl : List (Addr × (List D → Option RetV))} {as : Exs} : xE ps (.callE e tbl as) ρ k = xE ps e ρ fun v ρ1 => dV v fun d => (asFn d).bind fun a => (tblF tbl a).bind fun f => xA ps as ρ1 fun As ρ2 => dA As fun ds => cK f ds fun v => k v ρ2 := by
  simp only [xE, xA, dA, cK, dV, evE, Option.bind_assoc, bm]
theorem xE_isaT {a : Ex} {Ts : List String} (hl : Ts.length ≤ 10) : xE ps (.isaT a Ts) ρ k = xE ps a ρ fun v ρ1 => aV v fun A => nA A ρ1 fun d => (kitM d Ts).bind fun b => k (.d (.bool b)) ρ1 := by
  simp only [xE, aV, nA, evE, if_pos hl, Option.bind_assoc, bm]
theorem xA_nil : xA ps .nil ρ kA = kA [] ρ := rfl
theorem xA_cons {a : Ex} {as : Exs} : xA ps (.cons a as) ρ kA = xE ps a ρ fun v ρ1 => aV v fun A => xA ps as ρ1 fun As ρ2 => kA (A :: As) ρ2 := by
  simp only [xE, xA, aV, evA, Option.bind_assoc, bm]
theorem xT_te {a : Ex} : xT ps (.te a) ρ kT = xE ps a ρ fun v ρ1 => dV v fun d => bD d fun b => kT b ρ1 := by
  simp only [xE, xT, dV, bD, evT, Option.bind_assoc, bm]
theorem xT_tb {a : Ex} : xT ps (.tb a) ρ kT = xE ps a ρ fun v ρ1 => dV v fun d => bD d fun b => kT b ρ1 := by
  simp only [xE, xT, dV, bD, evT, Option.bind_assoc, bm]
theorem xT_nt {t : Tx} : xT ps (.nt t) ρ kT = xT ps t ρ fun b ρ1 => kT (!b) ρ1 := by
  simp only [xT, evT, Option.bind_assoc, bm]
theorem xT_an {t u : Tx} : xT ps (.an t u) ρ kT = xT ps t ρ fun b ρ1 => if b = true then xT ps u ρ1 kT else kT false ρ1 := by
  simp only [xT, evT, Option.bind_assoc, bm, iteb]
  rfl
theorem xT_or {t u : Tx} : xT ps (.or t u) ρ kT = xT ps t ρ fun b ρ1 => if b = true then kT true ρ1 else xT ps u ρ1 kT := by
  simp only [xT, evT, Option.bind_assoc, bm, iteb]
  rfl
theorem xT_yes : xT ps .yes ρ kT = kT true ρ := rfl
theorem xT_lend {t : Tx} : xT ps (.lend t) ρ kT = xT ps t (ρ.map lentE) fun b _ => kT b ρ := by
  simp only [xT, evT, Option.bind_assoc, bm]
theorem xP_no : xP ps .no ρ kP = kP none ρ := rfl
theorem xP_at {a : Ex} : xP ps (.at a) ρ kP = xE ps a ρ fun v ρ1 => dV v fun d => iD d fun i => kP (some i) ρ1 := by
  simp only [xE, xP, dV, iD, evP, Option.bind_assoc, bm]
theorem xI_rng1 {a : Ex} : xI ps (.rng1 a) ρ kI = xE ps a ρ fun v ρ1 => dV v fun d => iD d fun n => if -(2 ^ 62) ≤ n ∧ n < 2 ^ 62 then kI (rgD 0 n.toNat) ρ1 else none := by
  simp only [xE, xI, dV, iD, evI, Option.bind_assoc, bm, iteb]
  rfl
theorem xI_rng2 {a b : Ex} : xI ps (.rng2 a b) ρ kI = xE ps a ρ fun v ρ1 => dV v fun d => iD d fun m => xE ps b ρ1 fun w ρ2 => dV w fun e => iD e fun n => if (-(2 ^ 62) ≤ m ∧ m < 2 ^ 62) ∧ -(2 ^ 62) ≤ n ∧ n < 2 ^ 62 then kI (rgD m (n - m).toNat) ρ2 else none := by
  simp only [xE, xI, dV, iD, evI, Option.bind_assoc, bm, iteb]
  rfl
theorem xI_rng3 {a b c : Ex} : xI ps (.rng3 a b c) ρ kI = xE ps a ρ fun v ρ1 => dV v fun d => iD d fun m => xE ps b ρ1 fun w ρ2 => dV w fun e => iD e fun n => xE ps c ρ2 fun u ρ3 => dV u fun f => iD f fun o => if o = -1 ∧ (-(2 ^ 62) ≤ m ∧ m < 2 ^ 62) ∧ -(2 ^ 62) ≤ n ∧ n < 2 ^ 62 then kI (rdD m (m - n).toNat) ρ3 else none := by
  simp only [xE, xI, dV, iD, evI, Option.bind_assoc, bm, iteb]
  rfl
theorem xI_u {a : Ex} : xI ps (.u a) ρ kI = xE ps a ρ fun v ρ1 => dV v fun d => sD d fun ds => kI ds ρ1 := by
  simp only [xE, xI, dV, sD, evI, Option.bind_assoc, bm]
  refine bindE fun p _ => bindE fun d _ => ?_
  cases d <;> rfl
theorem xI_enl {a : Ex} : xI ps (.enl a) ρ kI = xE ps a ρ fun v ρ1 => dV v fun d => lD d fun ds => kI (enD ds) ρ1 := by
  simp only [xE, xI, dV, lD, evI, Option.bind_assoc, bm]
  refine bindE fun p _ => bindE fun d _ => ?_
  cases d <;> rfl
theorem xI_en {a : Ex} : xI ps (.en a) ρ kI = xE ps a ρ fun v ρ1 => dV v fun d => tD d fun ds => kI (enD ds) ρ1 := by
  simp only [xE, xI, dV, tD, evI, Option.bind_assoc, bm]
  refine bindE fun p _ => bindE fun d _ => ?_
  cases d <;> rfl
def lS (ds : List D) (j : Nat) (d : D) (kl : List D → Option β) : Option β := kl (ds.set j d)
theorem lS_0 {a d : D} {ds : List D} {kl : List D → Option β} : lS (a :: ds) 0 d kl = kl (d :: ds) := rfl
theorem lS_s {a d : D} {ds : List D} {j : Nat} {kl : List D → Option β} : lS (a :: ds) (j + 1) d kl = lS ds j d fun l => kl (a :: l) := rfl
theorem xG_nm {i : Nat} {d : D} : xG ps (.nm i) d ρ kn = sK ps ρ i (.dat d) kn := by
  simp only [xG, sK, setG, iteb]
  rfl
theorem xG_tup {n : Nat} {ts : EV.Tgs} {ds : List D} : xG ps (.tup n ts) (.tuple ds) ρ kn = if ds.length = n then xGs ps ts ds ρ kn else none := by
  simp only [xG, xGs, setG, iteb]
  rfl
theorem xGs_nil : xGs ps .nil [] ρ kn = kn ρ := rfl
theorem xGs_cons {t : EV.Tg} {ts : EV.Tgs} {d : D} {ds : List D} : xGs ps (.cons t ts) (d :: ds) ρ kn = xG ps t d ρ fun ρ1 => xGs ps ts ds ρ1 kn := by
  simp only [xG, xGs, setGs, Option.bind_assoc]
def sV (ps : List Nat) (ρ : Rho) (i : Nat) (v : Vl) (kn : Rho → Option β) : Option β := match v with
  | .d x => sK ps ρ i (.dat x) kn
  | .n ds => sK ps ρ i (.own (.lst ds)) kn
  | .w w => sK ps ρ i (.own w) kn
  | .o _ => none
theorem sV_d {i : Nat} {x : D} : sV ps ρ i (.d x) kn = sK ps ρ i (.dat x) kn := rfl
theorem sV_n {i : Nat} {x : List D} : sV ps ρ i (.n x) kn = sK ps ρ i (.own (.lst x)) kn := rfl
theorem sV_w {i : Nat} {x : Ow} : sV ps ρ i (.w x) kn = sK ps ρ i (.own x) kn := rfl
def rV (ps : List Nat) (ρ : Rho) (v : Vl) (ka : Out → Option β) : Option β := (retO ps ρ v).bind ka
theorem rV_d {x : D} : rV ps ρ (.d x) ka = ka (.rt ρ (.dat x)) := rfl
theorem rV_n {x : List D} : rV ps ρ (.n x) ka = ka (.rt ρ (.new (.lst x))) := rfl
theorem rV_w {x : Ow} : rV ps ρ (.w x) ka = ka (.rt ρ (.new x)) := rfl
theorem rV_o {i : Nat} : rV ps ρ (.o i) ka = gE ρ i fun e => eL e fun ds => sK ps ρ i .no fun ρ1 => ka (.rt ρ1 (.new (.lst ds))) := by
  unfold rV
  simp only [retO, sK, ← gL, Option.bind_assoc]
  refine bindE fun ds h => ?_
  rw [iteb]
  have := ownLt h
  by_cases hp : i ∉ ps
  · rw [if_pos hp, if_pos ⟨this, hp⟩]; rfl
  · rw [if_neg hp, if_neg (fun z => hp z.2)]; rfl
theorem xS_set {i : Nat} {e : Ex} : xS ps (.set i e) ρ kn ka = xE ps e ρ fun v ρ1 => sV ps ρ1 i v kn := by
  simp only [xS, xE, exS, Option.bind_assoc]
  refine bindE fun p _ => ?_
  obtain ⟨v, ρ1⟩ := p
  cases v <;> simp only [setV, sV, sK, iteb] <;> rfl
theorem xS_asg {e : Ex} {t : EV.Tg} : xS ps (.asg e t) ρ kn ka = xE ps e ρ fun v ρ1 => dV v fun d => xG ps t d ρ1 kn := by
  simp only [xS, xE, dV, xG, exS, Option.bind_assoc, bm]
  rfl
theorem xS_seti {i : Nat} {a e : Ex} : xS ps (.seti i a e) ρ kn ka = xE ps e ρ fun v ρ1 => dV v fun d => gE ρ1 i fun en => eL en fun _ => xE ps a ρ1 fun w ρ2 => dV w fun x => iD x fun n => gE ρ2 i fun en => eL en fun ds => nI ds.length n fun j => lS ds j d fun ds' => sR ρ2 i (.own (.lst ds')) kn := by
  simp only [xS, xE, dV, iD, nI, ← gL, exS, Option.bind_assoc, bm]
  refine bindE fun p _ => bindE fun d _ => bindE fun _ _ => bindE fun q _ => bindE fun _ _ => bindE fun _ _ => bindE fun ds h => bindE fun j _ => ?_
  show _ = sR q.2 i (.own (.lst (ds.set j d))) kn
  rw [sRp (ownLt h)]; rfl
theorem xS_app {i : Nat} {e : Ex} : xS ps (.app i e) ρ kn ka = gE ρ i fun en => eL en fun _ => xE ps e ρ fun v ρ1 => dV v fun d => gE ρ1 i fun en => eL en fun ds => if ds.length < sizeLine then sR ρ1 i (.own (.lst (ds ++ [d]))) kn else none := by
  simp only [xS, xE, dV, ← gL, exS, Option.bind_assoc, bm]
  refine bindE fun _ _ => bindE fun p _ => bindE fun d _ => bindE fun ds h => ?_
  rw [iteb, sRp (ownLt h)]; rfl
theorem xS_newD {i : Nat} : xS ps (.newD i) ρ kn ka = sK ps ρ i (.own (.dK [])) kn := by
  simp only [xS, sK, exS, iteb]
  rfl
theorem xS_dput {i : Nat} {a e : Ex} : xS ps (.dput i a e) ρ kn ka = xE ps e ρ fun v ρ1 => dV v fun d => gE ρ1 i fun en => eD en fun _ => xE ps a ρ1 fun w ρ2 => dV w fun x => kD x fun q => gE ρ2 i fun en => eD en fun kvs => if kvs.length < sizeLine then sR ρ2 i (.own (.dK (putD kvs q d))) kn else none := by
  simp only [xS, xE, dV, kD, ← gD, exS, Option.bind_assoc, bm]
  refine bindE fun p _ => bindE fun d _ => bindE fun _ _ => bindE fun q _ => bindE fun _ _ => bindE fun _ _ => bindE fun ds h => ?_
  rw [iteb, sRp (ownDt h)]; rfl
theorem xS_newX {i : Nat} : xS ps (.newX i) ρ kn ka = sK ps ρ i (.own (.dT [])) kn := by
  simp only [xS, sK, exS, iteb]
  rfl
theorem xS_xput {i : Nat} {a e : Ex} : xS ps (.xput i a e) ρ kn ka = xE ps e ρ fun v ρ1 => dV v fun d => gE ρ1 i fun en => eT en fun _ => xE ps a ρ1 fun w ρ2 => dV w fun x => tkK x fun q => gE ρ2 i fun en => eT en fun kvs => if kvs.length < sizeLine then sR ρ2 i (.own (.dT (putT kvs q d))) kn else none := by
  simp only [xS, xE, dV, tkK, ← gT, exS, Option.bind_assoc, bm]
  refine bindE fun p _ => bindE fun d _ => bindE fun _ _ => bindE fun q _ => bindE fun _ _ => bindE fun _ _ => bindE fun ds h => ?_
  rw [iteb, sRp (ownTt h)]; rfl
theorem xS_drop {e : Ex} : xS ps (.drop e) ρ kn ka = xE ps e ρ fun v ρ1 => dV v fun _ => kn ρ1 := by
  simp only [xS, xE, dV, exS, Option.bind_assoc, bm]
  rfl
theorem xS_ret {e : Ex} : xS ps (.ret e) ρ kn ka = xE ps e ρ fun v ρ1 => rV ps ρ1 v ka := by
  simp only [xS, xE, rV, exS, Option.bind_assoc]
  refine bindE fun p _ => ?_
  obtain ⟨v, ρ1⟩ := p
  cases v with
  | d x => rfl
  | n x => rfl
  | w x => rfl
  | o i =>
    simp only [retO, Option.bind_assoc]
    refine bindE fun ds h => ?_
    rw [iteb, iteb]
    rfl
theorem xE_callX {f : List D → Option RetX} {as : Exs} : xE ps (.callX f as) ρ k = xA ps as ρ fun As ρ1 => dA As fun ds => cX f ds (fun d => k (.d d) ρ1) fun _ => none := by
  simp only [xE, xA, dA, cX, evE, Option.bind_assoc]
  refine bindE fun p _ => bindE fun ds _ => bindE fun r _ => ?_
  cases r with
  | ok r => cases r <;> rfl
  | exc C => rfl
theorem gF {ρ : Rho} {i : Nat} {f : List (Key × D) → Option β} : (ownF ρ i).bind f = gE ρ i fun e => eF e f := by
  unfold ownF gE eF
  cases h : ρ[i]? with
  | none => rfl
  | some e =>
    cases e with
    | own w => cases w <;> rfl
    | _ => rfl
theorem ownFt {ds : List (Key × D)} {i : Nat} (h : ownF ρ i = some ds) : i < ρ.length := (List.getElem?_eq_some_iff.mp (ownF_eq h)).1
def s2D (d x : D) (k : Str → Str → Option β) : Option β := match d, x with
  | .str y, .str z => k y z
  | _, _ => none
theorem s2D_s {y z : Str} {k : Str → Str → Option β} : s2D (.str y) (.str z) k = k y z := rfl
def sZ (ds : List D) (k : List D → Option β) : Option β := (srtsV ds).bind k
theorem sZ_s {ds zs : List D} {k : List D → Option β} (h : srtsV ds = some zs) : sZ ds k = k zs := by unfold sZ; rw [h]; rfl
theorem xE_srts {a : Ex} : xE ps (.srts a) ρ k = xE ps a ρ fun v ρ1 => dV v fun d => lD d fun ds => sZ ds fun zs => k (.n zs) ρ1 := by
  simp only [xE, dV, lD, sZ, evE, Option.bind_assoc]
  refine bindE fun p _ => bindE fun d _ => ?_
  cases d with
  | list ds =>
    show ((srtsV ds).map _).bind _ = _
    rw [Option.bind_map]
    rfl
  | _ => rfl
theorem xE_srs {a : Ex} : xE ps (.srs a) ρ k = xE ps a ρ fun v ρ1 => dV v fun d => tD d fun ds => (srsD ds).bind fun zs => k (.n (zs.map .int)) ρ1 := by
  simp only [xE, dV, tD, evE, Option.bind_assoc]
  refine bindE fun p _ => bindE fun d _ => ?_
  cases d with
  | tuple ds =>
    show ((srsD ds).map _).bind _ = _
    rw [Option.bind_map]
    rfl
  | _ => rfl
theorem xE_revT {a : Ex} : xE ps (.revT a) ρ k = xE ps a ρ fun v ρ1 => dV v fun d => tD d fun ds => k (.d (.tuple ds.reverse)) ρ1 := by
  simp only [xE, dV, tD, evE, Option.bind_assoc]
  refine bindE fun p _ => bindE fun d _ => ?_
  cases d <;> rfl
theorem xE_revL {a : Ex} : xE ps (.revL a) ρ k = xE ps a ρ fun v ρ1 => aV v fun A => nA A ρ1 fun d => lD d fun ds => k (.n ds.reverse) ρ1 := by
  simp only [xE, aV, nA, lD, evE, Option.bind_assoc]
  refine bindE fun p _ => bindE fun A _ => bindE fun d _ => ?_
  cases d <;> rfl
theorem xE_sw {e : Bool} {a b : Ex} : xE ps (.sw e a b) ρ k = xE ps a ρ fun v ρ1 => dV v fun d => xE ps b ρ1 fun w ρ2 => dV w fun x => s2D d x fun y z => k (.d (.bool (if e then Txt.endswith y z else Txt.startswith y z))) ρ2 := by
  simp only [xE, dV, evE, Option.bind_assoc]
  refine bindE fun p _ => bindE fun d _ => bindE fun q _ => bindE fun x _ => ?_
  cases d <;> first | rfl | (cases x <;> rfl)
def strD (d : D) (k : Str → Option β) : Option β := match d with
  | .str x => k x
  | _ => none
theorem strD_s {x : Str} {k : Str → Option β} : strD (.str x) k = k x := rfl
theorem xE_allIn {cs : Str} {a : Ex} : xE ps (.allIn cs a) ρ k = xE ps a ρ fun v ρ1 => dV v fun d => strD d fun x => k (.d (.bool (x.cps.toList.all (oneIn cs)))) ρ1 := by
  simp only [xE, dV, evE, Option.bind_assoc]
  refine bindE fun p _ => bindE fun d _ => ?_
  cases d <;> rfl
theorem xE_inC {n : Bool} {xs : List Str} {a : Ex} : xE ps (.inC n xs a) ρ k = xE ps a ρ fun v ρ1 => dV v fun d => strD d fun x => k (.d (.bool (if n then !decide (x ∈ xs) else decide (x ∈ xs)))) ρ1 := by
  simp only [xE, dV, evE, Option.bind_assoc]
  refine bindE fun p _ => bindE fun d _ => ?_
  cases d <;> rfl
theorem xE_isB {n b : Bool} {a : Ex} : xE ps (.isB n b a) ρ k = xE ps a ρ fun v ρ1 => dV v fun d => bD d fun x => k (.d (.bool (if n then !decide (x = b) else decide (x = b)))) ρ1 := by
  simp only [xE, dV, bD, evE, Option.bind_assoc, bm]
theorem xE_lget {i : Nat} {a : Ex} : xE ps (.lget i a) ρ k = gE ρ i fun e => eF e fun _ => xE ps a ρ fun v ρ1 => dV v fun d => kD d fun q => gE ρ1 i fun e => eF e fun kvs => vK kvs q fun d => k (.d d) ρ1 := by
  simp only [xE, dV, kD, vK, ← gF, evE, Option.bind_assoc, bm]
theorem xE_dget2 {i : Nat} {a b : Ex} : xE ps (.dget2 i a b) ρ k = gE ρ i fun e => eD e fun _ => xE ps a ρ fun v ρ1 => dV v fun d => kD d fun q => xE ps b ρ1 fun w ρ2 => dV w fun z => gE ρ2 i fun e => eD e fun kvs => k (.d ((valD kvs q).getD z)) ρ2 := by
  simp only [xE, dV, kD, ← gD, evE, Option.bind_assoc, bm]
theorem xT_tl {a : Ex} : xT ps (.tl a) ρ kT = xE ps a ρ fun v ρ1 => aV v fun A => nA A ρ1 fun d => lD d fun ds => kT (!ds.isEmpty) ρ1 := by
  simp only [xE, xT, aV, nA, lD, evT, Option.bind_assoc]
  refine bindE fun p _ => bindE fun _ _ => bindE fun d _ => ?_
  cases d <;> rfl
theorem xI_ky {i : Nat} : xI ps (.ky i) ρ kI = gE ρ i fun e => eF e fun kvs => kI (kvs.map fun p => keyOf p.1) ρ := by
  simp only [xI, ← gF, evI, Option.bind_assoc, bm]
theorem xS_lk0 {i : Nat} {s : EV.St} : xS [] (.lk i s) ρ kn ka = gE ρ i fun e => eD e fun kvs => sR ρ i (.own (.dF kvs)) fun ρ1 => xS [i] s ρ1 (fun ρ' => gE ρ' i fun e => eF e fun kvs' => sR ρ' i .no fun ρ'' => if noF ρ'' = true then sR ρ' i (.own (.dK kvs')) kn else none) fun _ => none := by
  simp only [xS, ← gD, ← gF, exS, Option.bind_assoc]
  refine bindE fun kvs h => ?_
  rw [if_neg (by simp), sRp (ownDt h), Option.bind_assoc]
  refine bindE fun o _ => ?_
  cases o with
  | nx ρ' =>
    change ((ownF ρ' i).bind _).bind _ = (ownF ρ' i).bind _
    rw [Option.bind_assoc]
    refine bindE fun kvs' h' => ?_
    rw [sRp (ownFt h'), sRp (ownFt h')]
    split <;> rfl
  | _ => rfl
theorem xS_mv0 {i j : Nat} : xS [] (.mv i j) ρ kn ka = gE ρ j fun e => eD e fun kvs => sR ρ j .no fun ρ1 => sR ρ1 i (.own (.dK kvs)) kn := by
  simp only [xS, ← gD, exS, Option.bind_assoc]
  refine bindE fun kvs h => ?_
  rw [sRp (ownDt h)]
  unfold sR
  rw [List.length_set]
  by_cases q : i < ρ.length
  · rw [if_pos q, if_pos ⟨q, by simp, by simp⟩]; rfl
  · rw [if_neg q, if_neg fun z => q z.1]; rfl
theorem xS_aug {i : Nat} {e : Ex} : xS ps (.aug i e) ρ kn ka = gE ρ i fun en => tE en fun d => iD d fun m => xE ps e ρ fun v ρ1 => dV v fun d => iD d fun n => sK ps ρ1 i (.dat (.int (m + n))) kn := by
  have t : ∀ f : D → Option β, ((match ρ[i]? with
      | some (.dat d) => some d
      | _ => none).bind f) = gE ρ i fun en => tE en f := fun f => by
    unfold gE tE
    cases h : ρ[i]? with
    | none => rfl
    | some e => cases e <;> rfl
  simp only [xS, xE, dV, iD, sK, ← t, exS, Option.bind_assoc, iteb]
  rfl
section
variable {kv : Vl → Rho → Option β} {kx : Addr → Rho → Option β} {ko : Out → Option β}
theorem xR_x {f : List D → Option RetX} {as : Exs} : xR ps (.x f as) ρ kv kx = xA ps as ρ fun As ρ1 => dA As fun ds => cX f ds (fun d => kv (.d d) ρ1) fun C => kx C ρ1 := by
  simp only [xR, xA, dA, cX, evR, Option.bind_assoc]
  refine bindE fun p _ => bindE fun ds _ => bindE fun r _ => ?_
  cases r with
  | ok r => cases r <;> rfl
  | exc C => rfl
theorem xR_call {f : List D → Option RetV} {a : RE} : xR ps (.call f a) ρ kv kx = xR ps a ρ (fun v ρ1 => aV v fun A => dA [A] fun ds => cK f ds fun v => kv v ρ1) kx := by
  simp only [xR, aV, dA, cK, evR, Option.bind_assoc]
  refine bindE fun r _ => ?_
  cases r with
  | inl p =>
    simp only [Option.bind_assoc, bm]
  | inr q => rfl
theorem xR_lst {a : RE} : xR ps (.lst a) ρ kv kx = xR ps a ρ (fun v ρ1 => aV v fun A => dA [A] fun ds => if ds.length ≤ sizeLine then kv (.n ds) ρ1 else none) kx := by
  simp only [xR, aV, dA, evR, Option.bind_assoc]
  refine bindE fun r _ => ?_
  cases r with
  | inl p =>
    simp only [Option.bind_assoc]
    refine bindE fun A _ => bindE fun ds _ => ?_
    split <;> rfl
  | inr q => rfl
theorem xR_e {e : Ex} : xR ps (.e e) ρ kv kx = xE ps e ρ kv := by
  simp only [xR, xE, evR]
  cases evE ps e ρ <;> rfl
theorem xB_ret {e : RE} : xB ps (.ret e) ρ ko kx = xR ps e ρ (fun v ρ1 => rV ps ρ1 v ko) kx := by
  simp only [xB, xR, evB, rV, Option.bind_assoc]
  refine bindE fun r _ => ?_
  cases r with
  | inr q => rfl
  | inl p =>
    obtain ⟨v, ρ1⟩ := p
    cases v with
    | d x => rfl
    | n x => rfl
    | w x => rfl
    | o i =>
      simp only [retO, Option.bind_assoc]
      refine bindE fun ds h => ?_
      split <;> rfl
theorem xB_iff {t : Tx} {a b : TB} : xB ps (.iff t a b) ρ ko kx = xT ps t ρ fun x ρ1 => if x = true then xB ps a ρ1 ko kx else xB ps b ρ1 ko kx := by
  simp only [xB, xT, evB, Option.bind_assoc]
  refine bindE fun p _ => ?_
  cases p.1 <;> rfl
def oB (ps : List Nat) (b : TB) (ko : Out → Option β) (kx : Addr → Rho → Option β) (o : Out) : Option β := match o with
  | .nx ρ1 => xB ps b ρ1 ko kx
  | o => ko o
theorem xB_sif {t : Tx} {a b : TB} : xB ps (.sif t a b) ρ ko kx = xT ps t ρ fun x ρ1 => if x = true then xB ps a ρ1 (oB ps b ko kx) kx else xB ps b ρ1 ko kx := by
  simp only [xB, oB, xT, evB, Option.bind_assoc]
  refine bindE fun p _ => ?_
  cases p.1
  · rfl
  · simp only [if_true, Option.bind_assoc]
    refine bindE fun o _ => ?_
    cases o <;> rfl
/-- a clause takes it -/
def hN (S : Addr) (cs : List Addr) (hs : List (Addr × Hx)) (i : Nat) (ps : List Nat) (ka : Out → Option β) (C : Addr) (ρ1 : Rho) : Option β := if C ∈ cs ∧ i < ρ1.length ∧ i ∉ ps then (evHs S C hs).bind fun d => ka (.rt (ρ1.set i .no) (.dat d)) else none
theorem xS_tryK {b : TB} {i : Nat} {S : Addr} {kd : List (Addr × Str)} {tbl : List (Addr × List Str)} : xS ps (.tryK b i S kd tbl) ρ kn ka = xB ps b ρ (fun o => match o with | .rt ρ' r => ka (.rt ρ' r) | _ => none) fun C ρ1 => (tblN tbl C).bind fun ws => if i < ρ1.length then ka (.rt ρ1 (.new (.lst (ws.map .str)))) else none := by
  simp only [xS, xB, exS, Option.bind_assoc]
  refine bindE fun o _ => ?_
  cases o with
  | rt ρ' r => rfl
  | ex C ρ' =>
    simp only [Option.bind_assoc]
    refine bindE fun ws _ => ?_
    split <;> rfl
  | _ => rfl
end
theorem xS_never : xS ps .never ρ kn ka = none := rfl
theorem xS_raise {C : Addr} : xS ps (.raise C) ρ kn ka = ka (.ex C ρ) := rfl
theorem xS_asgXn {f : List D → Option RetX} {as : Exs} {i : Nat} : xS ps (.asgX f as (.nm i)) ρ kn ka = xA ps as ρ fun As ρ1 => dA As fun ds => cXN f ds (fun v => sV ps ρ1 i v kn) fun C => ka (.ex C ρ1) := by
  simp only [xS, xA, dA, cXN, exS, Option.bind_assoc]
  refine bindE fun p _ => bindE fun ds _ => bindE fun r _ => ?_
  cases r with
  | ok r => cases r <;> simp only [asgV, rvV, setV, sV, sK, iteb] <;> rfl
  | exc C => rfl
theorem xS_asgXt {f : List D → Option RetX} {as : Exs} {n : Nat} {ts : Tgs} : xS ps (.asgX f as (.tup n ts)) ρ kn ka = xA ps as ρ fun As ρ1 => dA As fun ds => cXN f ds (fun v => yV v fun d => xG ps (.tup n ts) d ρ1 kn) fun C => ka (.ex C ρ1) := by
  simp only [xS, xA, dA, cXN, exS, Option.bind_assoc]
  refine bindE fun p _ => bindE fun ds _ => bindE fun r _ => ?_
  cases r with
  | ok r =>
    cases r with
    | dat d =>
      show ((setG ps (.tup n ts) d p.2).map Out.nx).bind _ = (setG ps (.tup n ts) d p.2).bind kn
      cases setG ps (.tup n ts) d p.2 <;> rfl
    | new w => rfl
  | exc C => rfl
theorem yV_d {d : D} {k : D → Option β} : yV (.d d) k = k d := rfl
def aNe (d e : D) (k : Bool → Option β) : Option β := (anyNeD d e).bind k
theorem xE_anyNe {i j : Nat} : xE ps (.anyNe i j) ρ k = gE ρ i fun e => tE e fun d => gE ρ j fun e2 => tE e2 fun d2 => aNe d d2 fun b => k (.d (.bool b)) ρ := by
  have t : ∀ {γ : Type} (i : Nat) (f : D → Option γ), (datV ρ i).bind f = gE ρ i fun e => tE e f := fun i f => by
    unfold gE tE datV
    cases ρ[i]? with
    | none => rfl
    | some e => cases e <;> rfl
  simp only [xE, aNe, ← t, evE, Option.bind_assoc, bm]
def zpD (d e : D) (k : List D → Option β) : Option β := match d, e with
  | .tuple xs, .tuple ys => k (zipD xs ys)
  | _, _ => none
theorem zpD_t {xs ys : List D} {k : List D → Option β} : zpD (.tuple xs) (.tuple ys) k = k (zipD xs ys) := rfl
theorem xI_zp {a b : Ex} : xI ps (.zp a b) ρ kI = xE ps a ρ fun v ρ1 => dV v fun d => xE ps b ρ1 fun w ρ2 => dV w fun e => zpD d e fun l => kI l ρ2 := by
  simp only [xE, xI, dV, evI, Option.bind_assoc, bm]
  refine bindE fun p _ => bindE fun d _ => bindE fun q _ => bindE fun e _ => ?_
  cases d <;> first | rfl | (cases e <;> rfl)
theorem xS_dropX {f : List D → Option RetX} {as : Exs} : xS ps (.dropX f as) ρ kn ka = xA ps as ρ fun As ρ1 => dA As fun ds => cX f ds (fun _ => kn ρ1) fun C => ka (.ex C ρ1) := by
  simp only [xS, xA, dA, cX, exS, Option.bind_assoc]
  refine bindE fun p _ => bindE fun ds _ => bindE fun r _ => ?_
  cases r with
  | ok r => cases r <;> rfl
  | exc C => rfl
theorem xS_tryC {f : List D → Option RetX} {as : Exs} {C S : Addr} {i : Nat} {cs : List Addr} : xS ps (.tryC f as C i S cs) ρ kn ka = xA ps as ρ fun As ρ1 => dA As fun ds => cX f ds (fun _ => kn ρ1) fun C' => if C' = C ∧ i < ρ1.length then ka (.rt ρ1 (.dat (.bool true))) else none := by
  simp only [xS, xA, dA, cX, exS, Option.bind_assoc]
  refine bindE fun p _ => bindE fun ds _ => bindE fun r _ => ?_
  cases r with
  | ok r => cases r <;> rfl
  | exc C' =>
    change ((if C' = C ∧ i < p.2.length then _ else _) : Option Out).bind _ = (if C' = C ∧ i < p.2.length then _ else _)
    by_cases q : C' = C ∧ i < p.2.length
    · rw [if_pos q, if_pos q]; rfl
    · rw [if_neg q, if_neg q]; rfl
theorem xS_retN : xS ps .retN ρ kn ka = ka (.rt ρ (.dat .none)) := rfl
theorem xS_iff {t : Tx} {a b : EV.St} : xS ps (.iff t a b) ρ kn ka = xT ps t ρ fun x ρ1 => if x = true then xS ps a ρ1 kn ka else xS ps b ρ1 kn ka := by
  simp only [xS, xT, exS, Option.bind_assoc, iteb]
theorem xS_for {it : Ix} {t : EV.Tg} {b : EV.St} : xS ps (.for it t b) ρ kn ka = xI ps it ρ fun l ρ1 => fK (trn ps t b) l ρ1 fun o => kS o kn ka := by
  simp only [xS, xI, fK, exS, Option.bind_assoc]
  rfl
theorem xS_wh {n : Nat} {t : Tx} {b : EV.St} : xS ps (.wh n t b) ρ kn ka = wK t b ps n ρ fun o => kS o kn ka := by
  simp only [xS, wK, exS]
theorem xS_brk : xS ps .brk ρ kn ka = ka (.bk ρ) := rfl
theorem xS_cont : xS ps .cont ρ kn ka = ka (.ct ρ) := rfl
theorem xS_nx : xS ps .nx ρ kn ka = kn ρ := rfl
theorem xS_seq {a b : EV.St} : xS ps (.seq a b) ρ kn ka = xS ps a ρ (fun ρ1 => xS ps b ρ1 kn ka) ka := by
  simp only [xS, exS, Option.bind_assoc]
  refine bindE fun o _ => ?_
  cases o <;> rfl
def fzK (i : Nat) (e : Ent) (ρ : Rho) (ps : List Nat) (s : EV.St) (kn : Rho → Option β) (ka : Out → Option β) : Option β := match e with
  | .own (.lst ds) => sK ps ρ i (.dat (.list ds)) fun ρ1 => xS ps s ρ1 kn ka
  | _ => xS ps s ρ kn ka
theorem fzK_l {i : Nat} {ds : List D} {s : EV.St} : fzK i (.own (.lst ds)) ρ ps s kn ka = sK ps ρ i (.dat (.list ds)) fun ρ1 => xS ps s ρ1 kn ka := rfl
theorem fzK_d {i : Nat} {d : D} {s : EV.St} : fzK i (.dat d) ρ ps s kn ka = xS ps s ρ kn ka := rfl
theorem fzK_n {i : Nat} {s : EV.St} : fzK i .no ρ ps s kn ka = xS ps s ρ kn ka := rfl
theorem fzK_D {i : Nat} {s : EV.St} {kvs : List (Key × D)} : fzK i (.own (.dK kvs)) ρ ps s kn ka = xS ps s ρ kn ka := rfl
theorem xS_retD {i : Nat} (hp : i ∉ ps := by simp) : xS ps (.retD i) ρ kn ka = gE ρ i fun e => eD e fun kvs => ka (.rt (ρ.set i .no) (.new (.dK kvs))) := by
  simp only [xS, ← gD, exS, Option.bind_assoc, if_neg hp]
  rfl
def fzKD (i : Nat) (e : Ent) (ρ : Rho) (ps : List Nat) (s : EV.St) (kn : Rho → Option β) (ka : Out → Option β) : Option β := match e with
  | .own (.dK kvs) => sK ps ρ i (.dat (.dict (kvE kvs))) fun ρ1 => xS ps s ρ1 kn ka
  | _ => xS ps s ρ kn ka
theorem fzKD_D {i : Nat} {kvs : List (Key × D)} {s : EV.St} : fzKD i (.own (.dK kvs)) ρ ps s kn ka = sK ps ρ i (.dat (.dict (kvE kvs))) fun ρ1 => xS ps s ρ1 kn ka := rfl
theorem fzKD_d {i : Nat} {d : D} {s : EV.St} : fzKD i (.dat d) ρ ps s kn ka = xS ps s ρ kn ka := rfl
theorem xS_fzD {i : Nat} {s : EV.St} (hi : i < ρ.length) : xS ps (.fzD i s) ρ kn ka = gE ρ i fun e => fzKD i e ρ ps s kn ka := by
  have h : ρ[i]? = some ρ[i] := List.getElem?_eq_getElem hi
  unfold gE
  rw [h]
  unfold xS
  simp only [exS, h]
  show _ = fzKD i ρ[i] ρ ps s kn ka
  cases ρ[i] with
  | own w =>
    cases w with
    | dK ds =>
      show Option.bind (if i ∈ ps then none else exS ps s (List.set ρ i (.dat (.dict (kvE ds))))) (fun o => kS o kn ka) = sK ps ρ i (.dat (.dict (kvE ds))) fun ρ1 => (exS ps s ρ1).bind fun o => kS o kn ka
      unfold sK
      by_cases hp : i ∈ ps
      · rw [if_pos hp, if_neg (fun z => z.2 hp)]; try rfl
      · rw [if_neg hp, if_pos ⟨hi, hp⟩]; try rfl
    | _ => rfl
  | _ => rfl
theorem xS_fz {i : Nat} {s : EV.St} (hi : i < ρ.length) : xS ps (.fz i s) ρ kn ka = gE ρ i fun e => fzK i e ρ ps s kn ka := by
  have h : ρ[i]? = some ρ[i] := List.getElem?_eq_getElem hi
  unfold gE
  rw [h]
  unfold xS
  simp only [exS, h]
  show _ = fzK i ρ[i] ρ ps s kn ka
  cases ρ[i] with
  | own w =>
    cases w with
    | lst ds =>
      show Option.bind (if i ∈ ps then none else exS ps s (List.set ρ i (.dat (.list ds)))) (fun o => kS o kn ka) = sK ps ρ i (.dat (.list ds)) fun ρ1 => (exS ps s ρ1).bind fun o => kS o kn ka
      unfold sK
      by_cases hp : i ∈ ps
      · rw [if_pos hp, if_neg (fun z => z.2 hp)]; try rfl
      · rw [if_neg hp, if_pos ⟨hi, hp⟩]; try rfl
    | _ => rfl
  | _ => rfl
theorem kS_nx : kS (.nx ρ) kn ka = kn ρ := rfl
theorem kS_rt {r : RetV} : kS (.rt ρ r) kn ka = ka (.rt ρ r) := rfl
theorem kS_bk : kS (.bk ρ) kn ka = ka (.bk ρ) := rfl
theorem kS_ct : kS (.ct ρ) kn ka = ka (.ct ρ) := rfl
theorem cK_s {f : List D → Option RetV} {ds : List D} {r : RetV} {kv : Vl → Option β} (h : f ds = some r) : cK f ds kv = kv (rvV r) := by unfold cK; rw [h]; rfl
theorem cKS_s {f : List D → List D → Option (RetV × List D)} {st st' ds : List D} {r : RetV} {kv : Vl → List D → Option β} (h : f st ds = some (r, st')) : cKS f st ds kv = kv (rvV r) st' := by unfold cKS; rw [h]; rfl
theorem fK_s {f : D → Rho → Option Out} {l : List D} {o : Out} (h : forGo f l ρ = some o) : fK f l ρ kO = kO o := by unfold fK; rw [h]; rfl
theorem lK_s {f : D → Rho → Option (Option D × Rho)} {l ds : List D} {kl : List D → Rho → Option β} (h : lcGo f l ρ = some (ds, ρ')) : lK f l ρ kl = kl ds ρ' := by unfold lK; rw [h]; rfl
end
theorem okI {β : Type} {c : Prop} [Decidable c] {x : Option β} (h : c) : (if c then x else none) = x := if_pos h
theorem okI2 {β : Type} {c d : Prop} [Decidable c] [Decidable d] {x : Option β} (h : c) (h2 : d) : (if c ∧ d then x else none) = x := if_pos ⟨h, h2⟩
/-- what follows a turn -/
def aft (f : D → Rho → Option Out) (l : List D) (o : Out) : Option Out := match o with
  | .nx ρ1 => forGo f l ρ1
  | .ct ρ1 => forGo f l ρ1
  | .bk ρ1 => some (.nx ρ1)
  | .rt ρ1 r => some (.rt ρ1 r)
  | .ex C ρ1 => some (.ex C ρ1)
theorem aft_bk {f : D → Rho → Option Out} {l : List D} {ρ : Rho} : aft f l (.bk ρ) = some (.nx ρ) := rfl
theorem forGo_x {ps : List Nat} {t : EV.Tg} {b : EV.St} {x : D} {l : List D} {ρ : Rho} : forGo (trn ps t b) (x :: l) ρ = xG ps t x ρ fun ρ1 => xS ps b ρ1 (fun ρ => forGo (trn ps t b) l ρ) (aft (trn ps t b) l) := by
  show (trn ps t b x ρ).bind (aft (trn ps t b) l) = _
  unfold trn xG xS
  rw [Option.bind_assoc]
  congr 1
  funext ρ1
  congr 1
  funext o
  cases o <;> rfl
theorem trn_x {ps : List Nat} {t : EV.Tg} {b : EV.St} {x : D} {ρ : Rho} : trn ps t b x ρ = xG ps t x ρ fun ρ1 => xS ps b ρ1 (fun ρ => some (.nx ρ)) some := by
  simp only [trn, xG, xS]
  refine bindE fun ρ1 _ => ?_
  cases exS ps b ρ1 with
  | none => rfl
  | some o => cases o <;> rfl
theorem ltf_x {ps : List Nat} {j : Nat} {e : Ex} {y : D} {ρ : Rho} : ltf ps j e y ρ = sR ρ j (.dat y) fun ρ1 => xE ps e ρ1 fun v ρ2 => dV v fun d => sN ρ2 j fun ρ3 => some (some d, ρ3) := by
  simp only [ltf, sR, xE, dV]
  split
  · refine bindE fun r _ => ?_
    cases toD r.1 <;> rfl
  · rfl
theorem ltt_x {ps : List Nat} {i j : Nat} {it1 : Ix} {e : Ex} {x : D} {ρ : Rho} (hj : j < ρ.length) : ltt ps i it1 j e x ρ = sR ρ i (.dat x) fun ρ1 => xI ps it1 ρ1 fun l ρ2 => sN ρ2 j fun ρ3 => lK (ltf ps j e) l ρ3 fun ds ρ4 => sN ρ4 i fun ρ5 => sN ρ5 j fun ρ6 => some (ds, ρ6) := by
  simp only [ltt, sR, xI, lK]
  by_cases h : i < ρ.length
  · rw [if_pos ⟨h, hj⟩, if_pos h]
    refine bindE fun q _ => ?_
    show Option.map _ (lcGo _ _ _) = Option.bind (lcGo _ _ _) _
    cases lcGo (ltf ps j e) q.1 (q.2.set j .no) <;> rfl
  · rw [if_neg fun z => h z.1, if_neg h]
theorem lcc_map {α : Type} (enc : α → D) (F : α → List D) {f : D → Rho → Option (List D × Rho)} {ρ : Rho} {xs : List α} (h : ∀ x ∈ xs, f (enc x) ρ = some (F x, ρ)) : lccGo f (xs.map enc) ρ = some (xs.flatMap F, ρ) := by
  induction xs with
  | nil => rfl
  | cons x xs ih =>
    rw [List.map_cons]
    unfold lccGo
    rw [h x List.mem_cons_self, Option.bind_some, ih fun y m => h y (List.mem_cons_of_mem _ m)]
    rfl
theorem ltn_x {ps : List Nat} {j : Nat} {t : Tx} {e : Ex} {x : D} {ρ : Rho} : ltn ps j t e x ρ = sR ρ j (.dat x) fun ρ1 => xT ps t ρ1 fun b ρ2 => if b = true then xE ps e ρ2 fun v ρ3 => dV v fun d => sN ρ3 j fun ρ4 => some (some d, ρ4) else sN ρ2 j fun ρ4 => some (none, ρ4) := by
  simp only [ltn, sR, xT, xE, dV]
  split
  · refine bindE fun q _ => ?_
    split
    · refine bindE fun r _ => ?_
      cases toD r.1 <;> rfl
    · rfl
  · rfl
def tw2 (x : D) (kd : D → D → Option β) : Option β := (two x).bind fun p => kd p.1 p.2
theorem tw2_t {a b : D} {kd : D → D → Option β} : tw2 (.tuple [a, b]) kd = kd a b := rfl
theorem runD_x {st : EV.St} {m n : Nat} {ds : List D} (h : ds.length = m) : runD st m n ds = xS [] st (ds.map .dat ++ List.replicate (n - ds.length) .no) (fun _ => some (.dat .none)) out1 := by
  unfold runD xS
  rw [if_pos h]
  refine bindE fun o _ => ?_
  cases o <;> rfl
theorem lamV_d {x : D} : lamV (.d x) = some (.dat x) := rfl
theorem runS_x {st : EV.St} {m n : Nat} {s0 ds : List D} (h : ds.length + 1 = m) : runS st m n s0 ds = xS [0] st ((.own (.lst s0) :: ds.map .dat) ++ List.replicate (n - (ds.length + 1)) .no) (fun ρ => gE ρ 0 fun e => eL e fun s => some (.dat .none, s)) out2 := by
  unfold runS xS
  rw [if_pos h]
  refine bindE fun o _ => ?_
  cases o with
  | nx ρ =>
    show (ownL ρ 0).map _ = gE ρ 0 _
    rw [← gL]
    cases ownL ρ 0 <;> rfl
  | _ => rfl
theorem out1_rt {ρ : Rho} {r : RetV} : out1 (.rt ρ r) = some r := rfl
theorem out2_rt {ρ : Rho} {r : RetV} : out2 (.rt ρ r) = gE ρ 0 fun e => eL e fun s => some (r, s) := by
  show (ownL ρ 0).map _ = gE ρ 0 _
  rw [← gL]
  cases ownL ρ 0 <;> rfl
theorem forGo_inv {f : D → Rho → Option Out} (I : Nat → Rho) : ∀ (l : List D) (i0 : Nat), (∀ i, i < l.length → f (nthD l i) (I (i0 + i)) = some (.nx (I (i0 + i + 1))) ∨ f (nthD l i) (I (i0 + i)) = some (.ct (I (i0 + i + 1)))) → forGo f l (I i0) = some (.nx (I (i0 + l.length)))
  | [], _, _ => rfl
  | x :: xs, i0, h => by
    have h0 := h 0 (by simp)
    have step : forGo f (x :: xs) (I i0) = forGo f xs (I (i0 + 1)) := by
      rcases h0 with h0 | h0
      · show (f x (I i0)).bind _ = _
        rw [show f x (I i0) = _ from h0]; rfl
      · show (f x (I i0)).bind _ = _
        rw [show f x (I i0) = _ from h0]; rfl
    rw [step, forGo_inv I xs (i0 + 1) fun i hi => ?_]
    · rw [List.length_cons, Nat.add_assoc, Nat.add_comm 1]
    · have := h (i + 1) (by simpa using hi)
      rw [show i0 + 1 + i = i0 + (i + 1) by omega]
      exact this
theorem for_inv {f : D → Rho → Option Out} (I : Nat → Rho) {l : List D} {ρ ρ' : Rho} (h0 : I 0 = ρ) (h1 : I l.length = ρ') (h : ∀ i, i < l.length → f (nthD l i) (I i) = some (.nx (I (i + 1)))) : forGo f l ρ = some (.nx ρ') := by
  have := forGo_inv (f := f) I l 0 fun i hi => .inl (by rw [Nat.zero_add]; exact h i hi)
  rw [← h0, this, ← h1, Nat.zero_add]
/-- .. whose turns take one environment to the next -/
theorem lc_inv {f : D → Rho → Option (Option D × Rho)} (I : Nat → Rho) (G : Nat → D) : ∀ (l : List D) (i0 : Nat), (∀ i, i < l.length → f (nthD l i) (I (i0 + i)) = some (some (G (i0 + i)), I (i0 + i + 1))) → lcGo f l (I i0) = some ((List.range l.length).map (fun i => G (i0 + i)), I (i0 + l.length))
  | [], _, _ => rfl
  | x :: xs, i0, h => by
    have h0 := h 0 (by simp)
    show (f x (I i0)).bind _ = _
    rw [show f x (I i0) = _ from h0]
    show (lcGo f xs (I (i0 + 1))).bind _ = _
    rw [lc_inv I G xs (i0 + 1) fun i hi => ?_]
    · rw [List.length_cons, List.range_succ_eq_map, List.map_cons, List.map_map]
      simp only [Option.bind_some, Option.some.injEq, Prod.mk.injEq, List.cons.injEq, Nat.add_zero, true_and]
      refine ⟨List.map_congr_left fun i _ => ?_, by rw [show i0 + 1 + xs.length = i0 + (xs.length + 1) by omega]⟩
      simp only [Function.comp]
      rw [show i0 + 1 + i = i0 + (i + 1) by omega]
    · have := h (i + 1) (by simpa using hi)
      rw [show i0 + 1 + i = i0 + (i + 1) by omega]
      exact this
theorem lc_inv0 {f : D → Rho → Option (Option D × Rho)} (I : Nat → Rho) (G : Nat → D) {l : List D} {ρ ρ' : Rho} (h0 : I 0 = ρ) (h1 : I l.length = ρ') (h : ∀ i, i < l.length → f (nthD l i) (I i) = some (some (G i), I (i + 1))) : lcGo f l ρ = some ((List.range l.length).map G, ρ') := by
  have := lc_inv (f := f) I G l 0 fun i hi => by rw [Nat.zero_add]; exact h i hi
  rw [← h0, this, ← h1, Nat.zero_add]
  congr 2
  exact List.map_congr_left fun i _ => by rw [Nat.zero_add]
/-- the classes of errors -/
structure Cl where
  na : Addr
  tl : Addr
  mi : Addr
  bp : Addr
  bf : Addr
  br : Addr
  se : Addr
  fa : Nat → Addr
def Cl.tbl (X : Cl) : List (Addr × List Str) := [(X.na, ["NotAllowed"]), (X.tl, ["TooLarge"]), (X.mi, ["Missing"]), (X.bp, ["BadPaper"]), (X.bf, ["BadForm"]), (X.br, ["Broken"])]
end EV
namespace CS
open PySem PySem.Spec PyProof.Rows L2 DL EV
def b_l_stream_1 : EV.St :=
  .seq (.app 1 (.op .mod (.cb .int (.cons (.var 3) (.nil))) (.int 1009))) (.seq (.set 3 (.op .fdiv (.var 3) (.int 1009))) (.iff (.te (.op .eq (.var 3) (.int 0))) (.brk) (.nx)))
theorem u_b_l_stream_1 {β : Type} (ps : List Nat) (ρ : Rho) (kn : Rho → Option β) (ka : Out → Option β) : xS ps b_l_stream_1 ρ kn ka = xS ps (.seq (.app 1 (.op .mod (.cb .int (.cons (.var 3) (.nil))) (.int 1009))) (.seq (.set 3 (.op .fdiv (.var 3) (.int 1009))) (.iff (.te (.op .eq (.var 3) (.int 0))) (.brk) (.nx)))) ρ kn ka := rfl
def b_l_stream_3 : EV.St :=
  .seq (.set 5 (.op .mod (.cb .int (.cons (.op .add (.op .add (.op .mul (.var 5) (.int 48271)) (.op .mul (.int 7) (.var 4))) (.int 11)) (.nil))) (.int 2147483647))) (.app 1 (.op .mod (.op .mod (.cb .int (.cons (.op .add (.op .mul (.var 5) (.int 69621)) (.var 4)) (.nil))) (.int 2147483629)) (.int 1009)))
theorem u_b_l_stream_3 {β : Type} (ps : List Nat) (ρ : Rho) (kn : Rho → Option β) (ka : Out → Option β) : xS ps b_l_stream_3 ρ kn ka = xS ps (.seq (.set 5 (.op .mod (.cb .int (.cons (.op .add (.op .add (.op .mul (.var 5) (.int 48271)) (.op .mul (.int 7) (.var 4))) (.int 11)) (.nil))) (.int 2147483647))) (.app 1 (.op .mod (.op .mod (.cb .int (.cons (.op .add (.op .mul (.var 5) (.int 69621)) (.var 4)) (.nil))) (.int 2147483629)) (.int 1009)))) ρ kn ka := rfl
def b_l_stream_5 : EV.St :=
  .seq (.set 3 (.cb .abs (.cons (.cb .int (.cons (.var 2) (.nil))) (.nil)))) (.iff (.te (.op .ge (.var 3) (.op .pow (.int 10) (.int 18)))) (.for (.rng1 (.int 60)) (.nm 4) b_l_stream_1) (.seq (.set 5 (.op .mod (.cb .int (.cons (.var 3) (.nil))) (.int 2147483647))) (.for (.rng1 (.int 10)) (.nm 4) b_l_stream_3)))
theorem u_b_l_stream_5 {β : Type} (ps : List Nat) (ρ : Rho) (kn : Rho → Option β) (ka : Out → Option β) : xS ps b_l_stream_5 ρ kn ka = xS ps (.seq (.set 3 (.cb .abs (.cons (.cb .int (.cons (.var 2) (.nil))) (.nil)))) (.iff (.te (.op .ge (.var 3) (.op .pow (.int 10) (.int 18)))) (.for (.rng1 (.int 60)) (.nm 4) b_l_stream_1) (.seq (.set 5 (.op .mod (.cb .int (.cons (.var 3) (.nil))) (.int 2147483647))) (.for (.rng1 (.int 10)) (.nm 4) b_l_stream_3)))) ρ kn ka := rfl
def c_l_stream : EV.St :=
  .seq (.set 1 (.lst (.nil))) (.seq (.for (.u (.sl (.var 0) (.no) (.at (.int 63)))) (.nm 2) b_l_stream_5) (.seq (.iff (.te (.op .eq (.cb .len (.cons (.var 1) (.nil))) (.int 0))) (.app 1 (.int 0)) (.nx)) (.ret (.var 1))))
theorem u_c_l_stream {β : Type} (ps : List Nat) (ρ : Rho) (kn : Rho → Option β) (ka : Out → Option β) : xS ps c_l_stream ρ kn ka = xS ps (.seq (.set 1 (.lst (.nil))) (.seq (.for (.u (.sl (.var 0) (.no) (.at (.int 63)))) (.nm 2) b_l_stream_5) (.seq (.iff (.te (.op .eq (.cb .len (.cons (.var 1) (.nil))) (.int 0))) (.app 1 (.int 0)) (.nx)) (.ret (.var 1))))) ρ kn ka := rfl
def f_l_stream : List D → Option RetV := runD c_l_stream 1 6
theorem x_l_stream (d0 : D) : f_l_stream [d0] = xS [] c_l_stream [.dat d0, .no, .no, .no, .no, .no] (fun _ => some (.dat .none)) out1 := runD_x rfl
def c_l_next : EV.St :=
  .seq (.seti 0 (.int 1) (.op .add (.op .ix (.var 0) (.int 1)) (.int 1))) (.seq (.set 2 (.op .fdiv (.op .ix (.var 0) (.int 1)) (.cb .len (.cons (.op .ix (.var 0) (.int 0)) (.nil))))) (.ret (.op .mod (.cb .int (.cons (.op .add (.op .add (.op .ix (.op .ix (.var 0) (.int 0)) (.op .mod (.op .ix (.var 0) (.int 1)) (.cb .len (.cons (.op .ix (.var 0) (.int 0)) (.nil))))) (.op .mul (.var 2) (.int 389))) (.op .mul (.op .mul (.op .ix (.var 0) (.int 1)) (.var 2)) (.int 17))) (.nil))) (.var 1))))
theorem u_c_l_next {β : Type} (ps : List Nat) (ρ : Rho) (kn : Rho → Option β) (ka : Out → Option β) : xS ps c_l_next ρ kn ka = xS ps (.seq (.seti 0 (.int 1) (.op .add (.op .ix (.var 0) (.int 1)) (.int 1))) (.seq (.set 2 (.op .fdiv (.op .ix (.var 0) (.int 1)) (.cb .len (.cons (.op .ix (.var 0) (.int 0)) (.nil))))) (.ret (.op .mod (.cb .int (.cons (.op .add (.op .add (.op .ix (.op .ix (.var 0) (.int 0)) (.op .mod (.op .ix (.var 0) (.int 1)) (.cb .len (.cons (.op .ix (.var 0) (.int 0)) (.nil))))) (.op .mul (.var 2) (.int 389))) (.op .mul (.op .mul (.op .ix (.var 0) (.int 1)) (.var 2)) (.int 17))) (.nil))) (.var 1))))) ρ kn ka := rfl
def f_l_next : List D → List D → Option (RetV × List D) := runS c_l_next 2 3
theorem x_l_next (s0 : List D) (d1 : D) : f_l_next s0 [d1] = xS [0] c_l_next [.own (.lst s0), .dat d1, .no] (fun ρ => gE ρ 0 fun e => eL e fun s => some (.dat .none, s)) out2 := runS_x rfl
end CS
namespace CS
open PySem PySem.Spec PyProof.Rows L2 DL EV
end CS
namespace CS
open PySem PySem.Spec PyProof.Rows L2 DL EV
end CS
namespace CS
open PySem PySem.Spec PyProof.Rows L2 DL EV
end CS
namespace CS
open PySem PySem.Spec PyProof.Rows L2 DL EV
end CS
namespace CS
open PySem PySem.Spec PyProof.Rows L2 DL EV
end CS
namespace CS
open PySem PySem.Spec PyProof.Rows L2 DL EV
end CS
namespace CS
open PySem PySem.Spec PyProof.Rows L2 DL EV
end CS
namespace CS
open PySem PySem.Spec PyProof.Rows L2 DL EV
end CS
namespace CS
open PySem PySem.Spec PyProof.Rows L2 DL EV
end CS
namespace CS
open PySem PySem.Spec PyProof.Rows L2 DL EV
end CS
namespace CS
open PySem PySem.Spec PyProof.Rows L2 DL EV
end CS
namespace CS
open PySem PySem.Spec PyProof.Rows L2 DL EV
end CS
namespace CS
open PySem PySem.Spec PyProof.Rows L2 DL EV
end CS
namespace CS
open PySem PySem.Spec PyProof.Rows L2 DL EV
def c_freer_entries : EV.St :=
  .seq (.iff (.te (.op .eq (.var 0) (.tup (.nil)))) (.ret (.lst (.cons (.tup (.nil)) (.nil)))) (.nx)) (.seq (.iff (.te (.op .eq (.op .ix (.var 0) (.int 1)) (.neg (.int 1)))) (.ret (.lst (.cons (.tup (.nil)) (.cons (.var 0) (.nil))))) (.nx)) (.ret (.lst (.cons (.tup (.nil)) (.cons (.tup (.cons (.op .ix (.var 0) (.int 0)) (.cons (.neg (.int 1)) (.nil)))) (.cons (.var 0) (.nil)))))))
theorem u_c_freer_entries {β : Type} (ps : List Nat) (ρ : Rho) (kn : Rho → Option β) (ka : Out → Option β) : xS ps c_freer_entries ρ kn ka = xS ps (.seq (.iff (.te (.op .eq (.var 0) (.tup (.nil)))) (.ret (.lst (.cons (.tup (.nil)) (.nil)))) (.nx)) (.seq (.iff (.te (.op .eq (.op .ix (.var 0) (.int 1)) (.neg (.int 1)))) (.ret (.lst (.cons (.tup (.nil)) (.cons (.var 0) (.nil))))) (.nx)) (.ret (.lst (.cons (.tup (.nil)) (.cons (.tup (.cons (.op .ix (.var 0) (.int 0)) (.cons (.neg (.int 1)) (.nil)))) (.cons (.var 0) (.nil)))))))) ρ kn ka := rfl
def f_freer_entries : List D → Option RetV := runD c_freer_entries 1 1
theorem x_freer_entries (d0 : D) : f_freer_entries [d0] = xS [] c_freer_entries [.dat d0] (fun _ => some (.dat .none)) out1 := runD_x rfl
def e_freer_stands_1 : Ex :=
  .op .add (.var 3) (.tup (.cons (.var 4) (.nil)))
theorem u_e_freer_stands_1 {β : Type} (ps : List Nat) (ρ : Rho) (k : Vl → Rho → Option β) : xE ps e_freer_stands_1 ρ k = xE ps (.op .add (.var 3) (.tup (.cons (.var 4) (.nil)))) ρ k := rfl
def b_freer_stands_3 : EV.St :=
  .fz 1 (.set 1 (.lcc (.u (.var 1)) 3 (.u (.call f_freer_entries (.cons (.var 2) (.nil)))) 4 e_freer_stands_1))
theorem u_b_freer_stands_3 {β : Type} (ps : List Nat) (ρ : Rho) (kn : Rho → Option β) (ka : Out → Option β) : xS ps b_freer_stands_3 ρ kn ka = xS ps (.fz 1 (.set 1 (.lcc (.u (.var 1)) 3 (.u (.call f_freer_entries (.cons (.var 2) (.nil)))) 4 e_freer_stands_1))) ρ kn ka := rfl
def c_freer_stands : EV.St :=
  .seq (.set 1 (.lst (.cons (.tup (.nil)) (.nil)))) (.seq (.for (.u (.var 0)) (.nm 2) b_freer_stands_3) (.ret (.var 1)))
theorem u_c_freer_stands {β : Type} (ps : List Nat) (ρ : Rho) (kn : Rho → Option β) (ka : Out → Option β) : xS ps c_freer_stands ρ kn ka = xS ps (.seq (.set 1 (.lst (.cons (.tup (.nil)) (.nil)))) (.seq (.for (.u (.var 0)) (.nm 2) b_freer_stands_3) (.ret (.var 1)))) ρ kn ka := rfl
def f_freer_stands : List D → Option RetV := runD c_freer_stands 1 5
theorem x_freer_stands (d0 : D) : f_freer_stands [d0] = xS [] c_freer_stands [.dat d0, .no, .no, .no, .no] (fun _ => some (.dat .none)) out1 := runD_x rfl
def f_has_freer : List (NestedKey × D) → D → Option Bool := hasD f_freer_stands
def e_freest_1 : Ex :=
  .var 2
theorem u_e_freest_1 {β : Type} (ps : List Nat) (ρ : Rho) (k : Vl → Rho → Option β) : xE ps e_freest_1 ρ k = xE ps (.var 2) ρ k := rfl
def t_freest_3 : Tx :=
  .nt (.tb (.hasX f_has_freer 1 (.var 2)))
theorem u_t_freest_3 {β : Type} (ps : List Nat) (ρ : Rho) (k : Bool → Rho → Option β) : xT ps t_freest_3 ρ k = xT ps (.nt (.tb (.hasX f_has_freer 1 (.var 2)))) ρ k := rfl
def c_freest : EV.St :=
  .seq (.set 1 (.xd1 (.u (.var 0)) 2 (.var 2) (.bl true))) (.ret (.lc (.u (.srK 1)) 2 t_freest_3 e_freest_1))
theorem u_c_freest {β : Type} (ps : List Nat) (ρ : Rho) (kn : Rho → Option β) (ka : Out → Option β) : xS ps c_freest ρ kn ka = xS ps (.seq (.set 1 (.xd1 (.u (.var 0)) 2 (.var 2) (.bl true))) (.ret (.lc (.u (.srK 1)) 2 t_freest_3 e_freest_1))) ρ kn ka := rfl
def f_freest : List D → Option RetV := runD c_freest 1 3
theorem x_freest (d0 : D) : f_freest [d0] = xS [] c_freest [.dat d0, .no, .no] (fun _ => some (.dat .none)) out1 := runD_x rfl
def b_freer_1 : EV.St :=
  .iff (.te (.op .notIn (.var 3) (.call f_freer_entries (.cons (.op .ix (.var 1) (.var 2)) (.nil))))) (.ret (.bl false)) (.nx)
theorem u_b_freer_1 {β : Type} (ps : List Nat) (ρ : Rho) (kn : Rho → Option β) (ka : Out → Option β) : xS ps b_freer_1 ρ kn ka = xS ps (.iff (.te (.op .notIn (.var 3) (.call f_freer_entries (.cons (.op .ix (.var 1) (.var 2)) (.nil))))) (.ret (.bl false)) (.nx)) ρ kn ka := rfl
def c_freer : EV.St :=
  .seq (.for (.en (.var 0)) (.tup 2 (.cons (.nm 2) (.cons (.nm 3) (.nil)))) b_freer_1) (.ret (.bl true))
theorem u_c_freer {β : Type} (ps : List Nat) (ρ : Rho) (kn : Rho → Option β) (ka : Out → Option β) : xS ps c_freer ρ kn ka = xS ps (.seq (.for (.en (.var 0)) (.tup 2 (.cons (.nm 2) (.cons (.nm 3) (.nil)))) b_freer_1) (.ret (.bl true))) ρ kn ka := rfl
def f_freer : List D → Option RetV := runD c_freer 2 4
theorem x_freer (d0 d1 : D) : f_freer [d0, d1] = xS [] c_freer [.dat d0, .dat d1, .no, .no] (fun _ => some (.dat .none)) out1 := runD_x rfl
def b_l_freer_1 : EV.St :=
  .iff (.an (.te (.op .gt (.cb .len (.cons (.op .ix (.var 0) (.var 2)) (.nil))) (.int 0))) (.or (.te (.op .eq (.cb .len (.cons (.op .ix (.var 1) (.var 2)) (.nil))) (.int 0))) (.or (.te (.op .ne (.op .ix (.op .ix (.var 0) (.var 2)) (.int 0)) (.op .ix (.op .ix (.var 1) (.var 2)) (.int 0)))) (.te (.op .notIn (.op .ix (.op .ix (.var 0) (.var 2)) (.int 1)) (.lst (.cons (.neg (.int 1)) (.cons (.op .ix (.op .ix (.var 1) (.var 2)) (.int 1)) (.nil))))))))) (.ret (.bl false)) (.nx)
theorem u_b_l_freer_1 {β : Type} (ps : List Nat) (ρ : Rho) (kn : Rho → Option β) (ka : Out → Option β) : xS ps b_l_freer_1 ρ kn ka = xS ps (.iff (.an (.te (.op .gt (.cb .len (.cons (.op .ix (.var 0) (.var 2)) (.nil))) (.int 0))) (.or (.te (.op .eq (.cb .len (.cons (.op .ix (.var 1) (.var 2)) (.nil))) (.int 0))) (.or (.te (.op .ne (.op .ix (.op .ix (.var 0) (.var 2)) (.int 0)) (.op .ix (.op .ix (.var 1) (.var 2)) (.int 0)))) (.te (.op .notIn (.op .ix (.op .ix (.var 0) (.var 2)) (.int 1)) (.lst (.cons (.neg (.int 1)) (.cons (.op .ix (.op .ix (.var 1) (.var 2)) (.int 1)) (.nil))))))))) (.ret (.bl false)) (.nx)) ρ kn ka := rfl
def c_l_freer : EV.St :=
  .seq (.for (.rng1 (.cb .len (.cons (.var 0) (.nil)))) (.nm 2) b_l_freer_1) (.ret (.bl true))
theorem u_c_l_freer {β : Type} (ps : List Nat) (ρ : Rho) (kn : Rho → Option β) (ka : Out → Option β) : xS ps c_l_freer ρ kn ka = xS ps (.seq (.for (.rng1 (.cb .len (.cons (.var 0) (.nil)))) (.nm 2) b_l_freer_1) (.ret (.bl true))) ρ kn ka := rfl
def f_l_freer : List D → Option RetV := runD c_l_freer 2 3
theorem x_l_freer (d0 d1 : D) : f_l_freer [d0, d1] = xS [] c_l_freer [.dat d0, .dat d1, .no] (fun _ => some (.dat .none)) out1 := runD_x rfl
end CS
namespace CS
open PySem PySem.Spec PyProof.Rows L2 DL EV
def e_l_freest_1 : Ex :=
  .an (.op .ne (.var 3) (.var 2)) (.call f_l_freer (.cons (.var 3) (.cons (.var 2) (.nil))))
theorem u_e_l_freest_1 {β : Type} (ps : List Nat) (ρ : Rho) (k : Vl → Rho → Option β) : xE ps e_l_freest_1 ρ k = xE ps (.an (.op .ne (.var 3) (.var 2)) (.call f_l_freer (.cons (.var 3) (.cons (.var 2) (.nil))))) ρ k := rfl
def b_l_freest_3 : EV.St :=
  .iff (.nt (.tb (.cb .any (.cons (.lc (.u (.var 0)) 3 .yes e_l_freest_1) (.nil))))) (.app 1 (.var 2)) (.nx)
theorem u_b_l_freest_3 {β : Type} (ps : List Nat) (ρ : Rho) (kn : Rho → Option β) (ka : Out → Option β) : xS ps b_l_freest_3 ρ kn ka = xS ps (.iff (.nt (.tb (.cb .any (.cons (.lc (.u (.var 0)) 3 .yes e_l_freest_1) (.nil))))) (.app 1 (.var 2)) (.nx)) ρ kn ka := rfl
def c_l_freest : EV.St :=
  .seq (.set 1 (.lst (.nil))) (.seq (.for (.u (.srts (.var 0))) (.nm 2) b_l_freest_3) (.ret (.var 1)))
theorem u_c_l_freest {β : Type} (ps : List Nat) (ρ : Rho) (kn : Rho → Option β) (ka : Out → Option β) : xS ps c_l_freest ρ kn ka = xS ps (.seq (.set 1 (.lst (.nil))) (.seq (.for (.u (.srts (.var 0))) (.nm 2) b_l_freest_3) (.ret (.var 1)))) ρ kn ka := rfl
def f_l_freest : List D → Option RetV := runD c_l_freest 1 4
theorem x_l_freest (d0 : D) : f_l_freest [d0] = xS [] c_l_freest [.dat d0, .no, .no, .no] (fun _ => some (.dat .none)) out1 := runD_x rfl
def c_l_entry : EV.St :=
  .ret (.op .ix (.lst (.cons (.tup (.nil)) (.cons (.tup (.cons (.op .sub (.callS f_l_next 0 (.cons (.var 1) (.nil))) (.int 1)) (.cons (.op .sub (.callS f_l_next 0 (.cons (.var 1) (.nil))) (.int 1)) (.nil)))) (.cons (.tup (.cons (.op .sub (.callS f_l_next 0 (.cons (.var 1) (.nil))) (.int 1)) (.cons (.neg (.int 1)) (.nil)))) (.nil))))) (.callS f_l_next 0 (.cons (.int 3) (.nil))))
theorem u_c_l_entry {β : Type} (ps : List Nat) (ρ : Rho) (kn : Rho → Option β) (ka : Out → Option β) : xS ps c_l_entry ρ kn ka = xS ps (.ret (.op .ix (.lst (.cons (.tup (.nil)) (.cons (.tup (.cons (.op .sub (.callS f_l_next 0 (.cons (.var 1) (.nil))) (.int 1)) (.cons (.op .sub (.callS f_l_next 0 (.cons (.var 1) (.nil))) (.int 1)) (.nil)))) (.cons (.tup (.cons (.op .sub (.callS f_l_next 0 (.cons (.var 1) (.nil))) (.int 1)) (.cons (.neg (.int 1)) (.nil)))) (.nil))))) (.callS f_l_next 0 (.cons (.int 3) (.nil))))) ρ kn ka := rfl
def f_l_entry : List D → List D → Option (RetV × List D) := runS c_l_entry 2 2
theorem x_l_entry (s0 : List D) (d1 : D) : f_l_entry s0 [d1] = xS [0] c_l_entry [.own (.lst s0), .dat d1] (fun ρ => gE ρ 0 fun e => eL e fun s => some (.dat .none, s)) out2 := runS_x rfl
def b_law_16_1 : EV.St :=
  .iff (.te (.op .gt (.cb .len (.cons (.var 5) (.nil))) (.int 0))) (.seq (.set 12 (.op .ix (.var 5) (.callS f_l_next 1 (.cons (.cb .len (.cons (.var 5) (.nil))) (.nil))))) (.seq (.set 13 (.op .ix (.var 5) (.callS f_l_next 1 (.cons (.cb .len (.cons (.var 5) (.nil))) (.nil))))) (.seq (.fz 13 (.fz 12 (.set 14 (.call f_l_freer (.cons (.var 12) (.cons (.var 13) (.nil))))))) (.seq (.fz 13 (.fz 12 (.set 15 (.call f_freer (.cons (.var 12) (.cons (.var 13) (.nil))))))) (.fz 12 (.iff (.or (.nt (.tb (.isa (.var 15) "bool"))) (.or (.te (.op .ne (.var 15) (.var 14))) (.nt (.tb (.call f_freer (.cons (.var 12) (.cons (.var 12) (.nil)))))))) (.ret (.bl false)) (.nx))))))) (.nx)
theorem u_b_law_16_1 {β : Type} (ps : List Nat) (ρ : Rho) (kn : Rho → Option β) (ka : Out → Option β) : xS ps b_law_16_1 ρ kn ka = xS ps (.iff (.te (.op .gt (.cb .len (.cons (.var 5) (.nil))) (.int 0))) (.seq (.set 12 (.op .ix (.var 5) (.callS f_l_next 1 (.cons (.cb .len (.cons (.var 5) (.nil))) (.nil))))) (.seq (.set 13 (.op .ix (.var 5) (.callS f_l_next 1 (.cons (.cb .len (.cons (.var 5) (.nil))) (.nil))))) (.seq (.fz 13 (.fz 12 (.set 14 (.call f_l_freer (.cons (.var 12) (.cons (.var 13) (.nil))))))) (.seq (.fz 13 (.fz 12 (.set 15 (.call f_freer (.cons (.var 12) (.cons (.var 13) (.nil))))))) (.fz 12 (.iff (.or (.nt (.tb (.isa (.var 15) "bool"))) (.or (.te (.op .ne (.var 15) (.var 14))) (.nt (.tb (.call f_freer (.cons (.var 12) (.cons (.var 12) (.nil)))))))) (.ret (.bl false)) (.nx))))))) (.nx)) ρ kn ka := rfl
def e_law_16_3 : Ex :=
  .callS f_l_entry 1 (.cons (.var 4) (.nil))
theorem u_e_law_16_3 {β : Type} (ps : List Nat) (ρ : Rho) (k : Vl → Rho → Option β) : xE ps e_law_16_3 ρ k = xE ps (.callS f_l_entry 1 (.cons (.var 4) (.nil))) ρ k := rfl
def b_law_16_5 : EV.St :=
  .seq (.fz 4 (.set 9 (.cb .tuple (.cons (.lc (.rng1 (.var 3)) 16 .yes e_law_16_3) (.nil))))) (.seq (.iff (.an (.te (.op .gt (.cb .len (.cons (.var 5) (.nil))) (.int 0))) (.te (.op .gt (.callS f_l_next 1 (.cons (.int 3) (.nil))) (.int 0)))) (.seq (.set 10 (.op .ix (.var 5) (.callS f_l_next 1 (.cons (.cb .len (.cons (.var 5) (.nil))) (.nil))))) (.seq (.fz 3 (.set 11 (.callS f_l_next 1 (.cons (.var 3) (.nil))))) (.set 9 (.op .add (.op .add (.sl (.var 10) (.no) (.at (.var 11))) (.tup (.cons (.op .ix (.var 9) (.var 11)) (.nil)))) (.sl (.var 10) (.at (.op .add (.var 11) (.int 1))) (.no)))))) (.nx)) (.fz 9 (.app 5 (.var 9))))
theorem u_b_law_16_5 {β : Type} (ps : List Nat) (ρ : Rho) (kn : Rho → Option β) (ka : Out → Option β) : xS ps b_law_16_5 ρ kn ka = xS ps (.seq (.fz 4 (.set 9 (.cb .tuple (.cons (.lc (.rng1 (.var 3)) 16 .yes e_law_16_3) (.nil))))) (.seq (.iff (.an (.te (.op .gt (.cb .len (.cons (.var 5) (.nil))) (.int 0))) (.te (.op .gt (.callS f_l_next 1 (.cons (.int 3) (.nil))) (.int 0)))) (.seq (.set 10 (.op .ix (.var 5) (.callS f_l_next 1 (.cons (.cb .len (.cons (.var 5) (.nil))) (.nil))))) (.seq (.fz 3 (.set 11 (.callS f_l_next 1 (.cons (.var 3) (.nil))))) (.set 9 (.op .add (.op .add (.sl (.var 10) (.no) (.at (.var 11))) (.tup (.cons (.op .ix (.var 9) (.var 11)) (.nil)))) (.sl (.var 10) (.at (.op .add (.var 11) (.int 1))) (.no)))))) (.nx)) (.fz 9 (.app 5 (.var 9))))) ρ kn ka := rfl
def b_law_16_7 : EV.St :=
  .seq (.set 3 (.op .add (.int 1) (.callS f_l_next 1 (.cons (.int 4) (.nil))))) (.seq (.set 4 (.op .ix (.lst (.cons (.int 2) (.cons (.int 3) (.cons (.int 41) (.nil))))) (.callS f_l_next 1 (.cons (.int 3) (.nil))))) (.seq (.set 5 (.lst (.nil))) (.seq (.for (.rng1 (.callS f_l_next 1 (.cons (.int 25) (.nil)))) (.nm 6) b_law_16_5) (.seq (.set 7 (.cb .list (.cons (.var 5) (.nil)))) (.seq (.fz 5 (.set 8 (.call f_freest (.cons (.var 5) (.nil))))) (.seq (.fz 7 (.iff (.or (.te (.op .ne (.var 8) (.call f_l_freest (.cons (.var 7) (.nil))))) (.or (.te (.op .ne (.var 5) (.var 7))) (.nt (.tb (.isa (.var 8) "list"))))) (.ret (.bl false)) (.nx))) (.for (.rng1 (.int 6)) (.nm 6) b_law_16_1)))))))
theorem u_b_law_16_7 {β : Type} (ps : List Nat) (ρ : Rho) (kn : Rho → Option β) (ka : Out → Option β) : xS ps b_law_16_7 ρ kn ka = xS ps (.seq (.set 3 (.op .add (.int 1) (.callS f_l_next 1 (.cons (.int 4) (.nil))))) (.seq (.set 4 (.op .ix (.lst (.cons (.int 2) (.cons (.int 3) (.cons (.int 41) (.nil))))) (.callS f_l_next 1 (.cons (.int 3) (.nil))))) (.seq (.set 5 (.lst (.nil))) (.seq (.for (.rng1 (.callS f_l_next 1 (.cons (.int 25) (.nil)))) (.nm 6) b_law_16_5) (.seq (.set 7 (.cb .list (.cons (.var 5) (.nil)))) (.seq (.fz 5 (.set 8 (.call f_freest (.cons (.var 5) (.nil))))) (.seq (.fz 7 (.iff (.or (.te (.op .ne (.var 8) (.call f_l_freest (.cons (.var 7) (.nil))))) (.or (.te (.op .ne (.var 5) (.var 7))) (.nt (.tb (.isa (.var 8) "list"))))) (.ret (.bl false)) (.nx))) (.for (.rng1 (.int 6)) (.nm 6) b_law_16_1)))))))) ρ kn ka := rfl
def c_law_16 : EV.St :=
  .seq (.set 1 (.lst (.cons (.call f_l_stream (.cons (.var 0) (.nil))) (.cons (.int 0) (.nil))))) (.seq (.for (.rng1 (.int 4)) (.nm 2) b_law_16_7) (.ret (.bl true)))
theorem u_c_law_16 {β : Type} (ps : List Nat) (ρ : Rho) (kn : Rho → Option β) (ka : Out → Option β) : xS ps c_law_16 ρ kn ka = xS ps (.seq (.set 1 (.lst (.cons (.call f_l_stream (.cons (.var 0) (.nil))) (.cons (.int 0) (.nil))))) (.seq (.for (.rng1 (.int 4)) (.nm 2) b_law_16_7) (.ret (.bl true)))) ρ kn ka := rfl
def f_law_16 : List D → Option RetV := runD c_law_16 1 17
theorem x_law_16 (d0 : D) : f_law_16 [d0] = xS [] c_law_16 [.dat d0, .no, .no, .no, .no, .no, .no, .no, .no, .no, .no, .no, .no, .no, .no, .no, .no] (fun _ => some (.dat .none)) out1 := runD_x rfl
end CS
namespace EV
open PySem PySem.Spec PyProof.Rows L2 DL
/-- a def whose code object is at c -/
structure FunC (K : PySem.W.Frag) (x qual : Str) (st : Stmt) (f : Addr) (fd : FuncData) (c : Addr) : Prop where
  ex : ∃ (oc : Value) (od : Option Addr) (kV doc pm : Value) (an : Option Addr) (ct : Value) (osl : Array (Option Value)),
    fd = PySem.W.fnOf x qual (defArgs st) (defBody st) (defScope st) .none kV doc pm an (.ref c) ct ∧ K.lookup f = some ⟨oc, od, .func fd, osl⟩ ∧ PySem.W.codeIn K (.ref c) qual = true
end EV
namespace EV
open PySem PySem.Spec PyProof.Rows L2 DL
end EV
namespace EV
open PySem PySem.Spec PyProof.Rows L2 DL
section
variable [TabC]
variable {P : Program} {w : World} {K : PySem.W.Frag} {mg : Str → Option Value} {base : Heap} {x qual : Str} {st : Stmt} {f c : Addr} {fd : FuncData} {N ps : List Str} {k : Nat}
/-- a def that is lent a dict with tuple keys -/
theorem def_HC {f0 : List D → Option RetV} (Fn : FunC K x qual st f fd c) (S : FnScope N ps (defScope st)) (hN : N.length = 2) (hps : ps.length = 2)
    (ht : ∀ (A : Around) (outer : List PySem.Env) (s : Shared) (H : Hp) (E : XK), Room k (A.deeper (envOfC qual (defScope st) s.heap.objs.size f (.ref c))) → PSs (cxOf CX0 P w K mg base N qual (defScope st) f (.ref c) A outer s H E).nox (defBody st) (tRet (tAnyIn K 0 1 (tCall (spD (fun ds r => f0 ds = some r) K) [] E0 (tCons (tVar 1) tNil))))) :
    FnOk P w K mg base CX0 (k + 1) f fd ps (spHF (hasD f0) K) := by
  obtain ⟨oc, od, kV, doc, pm, an, ct, osl, rfl, lk, hcd⟩ := Fn.ex
  refine fn_of lk hcd S (fun vs H Q E h => ?_) fun A outer s H vs Q E hr h => ?_
  · obtain ⟨_, _, _, _, _, _, _, rfl, _⟩ := h
    rw [hps]
    rfl
  · exact ⟨_, (ht A outer s H E hr).nox, body_HF hN rfl h⟩
end
end EV
namespace K29
open PySem PySem.Spec PyProof.Rows L2 DL EV CS
def topS (i : Nat) : Stmt := PySem.Challenge.pw_scarp_k29_freest_stands.main.body.getD i (.Pass ⟨0, 0, 0, 0⟩)
structure Txt (K : PySem.W.Frag) (mg : Str → Option Value) (fA : Nat → Addr) (fD : Nat → FuncData) (cA cC cP : Nat → Addr) (base : Heap) : Prop where
  F_l_stream : Fun K "_law_stream" "_law_stream" (topS 7) (fA 7) (fD 7)
  g_l_stream : mg "_law_stream" = some (.ref (fA 7))
  b_l_stream : Binds K (fD 7) ["script"] []
  F_freer_entries : Fun K "_freer_entries" "_freer_entries" (topS 2) (fA 2) (fD 2)
  g_freer_entries : mg "_freer_entries" = some (.ref (fA 2))
  b_freer_entries : Binds K (fD 2) ["entry"] []
  F_freer_stands : Fun K "freer_stands" "freer_stands" (topS 5) (fA 5) (fD 5)
  g_freer_stands : mg "freer_stands" = some (.ref (fA 5))
  b_freer_stands : Binds K (fD 5) ["stand"] []
  F_has_freer : Fun K "_has_freer" "_has_freer" (topS 4) (fA 4) (fD 4)
  g_has_freer : mg "_has_freer" = some (.ref (fA 4))
  b_has_freer : Binds K (fD 4) ["present", "stand"] []
  F_freest : Fun K "freest" "freest" (topS 3) (fA 3) (fD 3)
  g_freest : mg "freest" = some (.ref (fA 3))
  b_freest : Binds K (fD 3) ["stands"] []
  F_l_next : Fun K "_law_next" "_law_next" (topS 8) (fA 8) (fD 8)
  g_l_next : mg "_law_next" = some (.ref (fA 8))
  b_l_next : Binds K (fD 8) ["state", "many"] []
  F_l_freer : Fun K "_law_freer" "_law_freer" (topS 9) (fA 9) (fD 9)
  g_l_freer : mg "_law_freer" = some (.ref (fA 9))
  b_l_freer : Binds K (fD 9) ["first", "second"] []
  F_l_freest : Fun K "_law_freest" "_law_freest" (topS 10) (fA 10) (fD 10)
  g_l_freest : mg "_law_freest" = some (.ref (fA 10))
  b_l_freest : Binds K (fD 10) ["stands"] []
  F_freer : Fun K "freer" "freer" (topS 1) (fA 1) (fD 1)
  g_freer : mg "freer" = some (.ref (fA 1))
  b_freer : Binds K (fD 1) ["first", "second"] []
  F_l_entry : Fun K "_law_entry" "_law_entry" (topS 11) (fA 11) (fD 11)
  g_l_entry : mg "_law_entry" = some (.ref (fA 11))
  b_l_entry : Binds K (fD 11) ["state", "most"] []
  F_law : Fun K "law" "law" (topS 12) (fA 12) (fD 12)
  g_law : mg "law" = some (.ref (fA 12))
  b_law : Binds K (fD 12) ["script"] []
  n_abs : mg "abs" = none
  n_any : mg "any" = none
  n_bool : mg "bool" = none
  n_enumerate : mg "enumerate" = none
  n_int : mg "int" = none
  n_isinstance : mg "isinstance" = none
  n_len : mg "len" = none
  n_list : mg "list" = none
  n_range : mg "range" = none
  n_set : mg "set" = none
  n_sorted : mg "sorted" = none
  n_tuple : mg "tuple" = none
  q_has_freer : FunC K "_has_freer" "_has_freer" (topS 4) (fA 4) (fD 4) (cC 4)
  tb_has_freer : GxR.TabB base mg (cC 4) (cP 4)
variable [I : TabC]
structure TxL (w : World) (cC cP : Nat → Addr) : Prop where
  wl : w = TabC.wld
  pt_has_freer : (cP 4, tabP (cP 4)) ∈ TabC.exts
section
variable {P : Program} {w : World} {K : PySem.W.Frag} {mg : Str → Option Value} {base : Heap} {fA : Nat → Addr} {fD : Nat → FuncData} {cA cC cP : Nat → Addr}
abbrev sl_stream : Stmt := topS 7
theorem scl_stream : FnScope ["script", "numbers", "cell", "rest", "k", "mixed"] ["script"] (defScope sl_stream) := ⟨rfl, rfl, rfl, by decide +kernel, rfl, by decide +kernel, by decide +kernel⟩
def tml_stream (K : PySem.W.Frag) (fA cA : Nat → Addr) : TS :=
  tSeq (tAsg (tLst (tNil)) (gName 1)) (tSeq (tFor (uIter K (tSl (rSlU K) (tVar 0) (tNoPart) (tPart (tC (.int 63))))) (gName 2) (tSeq (tAsg (tCB (bfK K .abs) (tCons (tCB (bfK K .int) (tCons (tVar 2) (tNil))) (tNil))) (gName 3)) (tIfS (tTest (tOp (opK K .ge) (tVar 3) (tOp (opK K .pow) (tC (.int 10)) (tC (.int 18))))) (tFor (iRng1 (tCons (tC (.int 60)) (tNil))) (gName 4) (tSeq (tDrop (tBM K "list" rAppend (tVar 1) (tCons (tOp (opK K .mod) (tCB (bfK K .int) (tCons (tVar 3) (tNil))) (tC (.int 1009))) tNil))) (tSeq (tAsg (tOp (opK K .fdiv) (tVar 3) (tC (.int 1009))) (gName 3)) (tIfS (tTest (tOp (opK K .eq) (tVar 3) (tC (.int 0)))) (tBreak) (tNext))))) (tSeq (tAsg (tOp (opK K .mod) (tCB (bfK K .int) (tCons (tVar 3) (tNil))) (tC (.int 2147483647))) (gName 5)) (tFor (iRng1 (tCons (tC (.int 10)) (tNil))) (gName 4) (tSeq (tAsg (tOp (opK K .mod) (tCB (bfK K .int) (tCons (tOp (opK K .add) (tOp (opK K .add) (tOp (opK K .mul) (tVar 5) (tC (.int 48271))) (tOp (opK K .mul) (tC (.int 7)) (tVar 4))) (tC (.int 11))) (tNil))) (tC (.int 2147483647))) (gName 5)) (tDrop (tBM K "list" rAppend (tVar 1) (tCons (tOp (opK K .mod) (tOp (opK K .mod) (tCB (bfK K .int) (tCons (tOp (opK K .add) (tOp (opK K .mul) (tVar 5) (tC (.int 69621))) (tVar 4)) (tNil))) (tC (.int 2147483629))) (tC (.int 1009))) tNil))))))))) (tSeq (tIfS (tTest (tOp (opK K .eq) (tCB (bfK K .len) (tCons (tVar 1) (tNil))) (tC (.int 0)))) (tDrop (tBM K "list" rAppend (tVar 1) (tCons (tC (.int 0)) tNil))) (tNext)) (tRet (tVar 1))))
theorem dnl_stream (K : PySem.W.Frag) (fA cA : Nat → Addr) : denS K E0 c_l_stream = tml_stream K fA cA := rfl
theorem htl_stream (T : Txt K mg fA fD cA cC cP base) (TL : TxL w cC cP)  (cdv : Value) (A : Around) (outer : List PySem.Env) (s : Shared) (H : Hp) (E : XK) (hr : Room 0 (A.deeper (envOfC "_law_stream" (defScope sl_stream) s.heap.objs.size (fA 7) cdv))) :
    PSs ((cxOf CX0 P w K mg base ["script", "numbers", "cell", "rest", "k", "mixed"] "_law_stream" (defScope sl_stream) (fA 7) cdv A outer s H E).nox) (defBody sl_stream) (tml_stream K fA cA) :=
  pss_cons (ps_set (i := 1) scl_stream.nd rfl (by first | exact Or.inl rfl | exact Or.inr rfl) (pe_lst (pa_nil)))
    (pss_cons (ps_for PassesOwn.never rfl (pi_u (pe_slice sl_u (pv 0) (po_none) (po_some (pe_int)))) (pg_name (i := 2) scl_stream.nd rfl (by first | exact Or.inl rfl | exact Or.inr rfl))
    (pss_cons (ps_set (i := 3) scl_stream.nd rfl (by first | exact Or.inl rfl | exact Or.inr rfl) (pe_callB cf_abs (by rfl) T.n_abs (by decide +kernel) (pa_cons (pe_callTy cf_int (by rfl) T.n_int (by decide +kernel) (pa_cons (pv 2) (pa_nil))) (pa_nil))))
    (pss_one (ps_if (pt_cmpR opr_ge (pv 3) (pe_op opr_pow (pe_int) (pe_int)) (nomark _)) (pss_one (ps_for PassesOwn.never rfl (pi_range1 (by rfl) T.n_range (pa_cons (pe_int) (pa_nil))) (pg_name (i := 4) scl_stream.nd rfl (by first | exact Or.inl rfl | exact Or.inr rfl))
    (pss_cons (ps_expr (pe_bm PySem.F.plainAttrs_list PySem.F.slot_list_append PySem.F.type_list_append mt_append (pv 1) (pa_cons (pe_op opr_mod (pe_callTy cf_int (by rfl) T.n_int (by decide +kernel) (pa_cons (pv 3) (pa_nil))) (pe_int)) pa_nil)))
    (pss_cons (ps_set (i := 3) scl_stream.nd rfl (by first | exact Or.inl rfl | exact Or.inr rfl) (pe_op opr_fdiv (pv 3) (pe_int)))
    (pss_one (ps_if (pt_cmpR (opr_eq hr.units) (pv 3) (pe_int) (nomark _)) (pss_one (ps_break)) (pss_nil))))))) (pss_cons (ps_set (i := 5) scl_stream.nd rfl (by first | exact Or.inl rfl | exact Or.inr rfl) (pe_op opr_mod (pe_callTy cf_int (by rfl) T.n_int (by decide +kernel) (pa_cons (pv 3) (pa_nil))) (pe_int)))
    (pss_one (ps_for PassesOwn.never rfl (pi_range1 (by rfl) T.n_range (pa_cons (pe_int) (pa_nil))) (pg_name (i := 4) scl_stream.nd rfl (by first | exact Or.inl rfl | exact Or.inr rfl))
    (pss_cons (ps_set (i := 5) scl_stream.nd rfl (by first | exact Or.inl rfl | exact Or.inr rfl) (pe_op opr_mod (pe_callTy cf_int (by rfl) T.n_int (by decide +kernel) (pa_cons (pe_op opr_add (pe_op opr_add (pe_op opr_mul (pv 5) (pe_int)) (pe_op opr_mul (pe_int) (pv 4))) (pe_int)) (pa_nil))) (pe_int)))
    (pss_one (ps_expr (pe_bm PySem.F.plainAttrs_list PySem.F.slot_list_append PySem.F.type_list_append mt_append (pv 1) (pa_cons (pe_op opr_mod (pe_op opr_mod (pe_callTy cf_int (by rfl) T.n_int (by decide +kernel) (pa_cons (pe_op opr_add (pe_op opr_mul (pv 5) (pe_int)) (pv 4)) (pa_nil))) (pe_int)) (pe_int)) pa_nil))))))))))))
    (pss_cons (ps_if (pt_cmpR (opr_eq hr.units) (pe_callB cf_len (by rfl) T.n_len PySem.boot_len (pa_cons (pv 1) (pa_nil))) (pe_int) (nomark _)) (pss_one (ps_expr (pe_bm PySem.F.plainAttrs_list PySem.F.slot_list_append PySem.F.type_list_append mt_append (pv 1) (pa_cons (pe_int) pa_nil)))) (pss_nil))
    (pss_one (ps_ret (pv 1)))))
theorem okl_stream (T : Txt K mg fA fD cA cC cP base) (TL : TxL w cC cP) : FnOk P w K mg base CX0 1 (fA 7) (fD 7) ["script"] (spD (fun ds r => f_l_stream ds = some r) K) :=
  def_D T.F_l_stream scl_stream (fun _ _ h => len_D h) (t := denS K E0 c_l_stream) (fun cdv A outer s H E hr => (dnl_stream K fA cA) ▸ htl_stream T TL  cdv A outer s H E hr) (fun _ _ h => run_D (side_of (by rfl)) h)
abbrev sfreer_entries : Stmt := topS 2
theorem scfreer_entries : FnScope ["entry"] ["entry"] (defScope sfreer_entries) := ⟨rfl, rfl, rfl, by decide +kernel, rfl, by decide +kernel, by decide +kernel⟩
def tmfreer_entries (K : PySem.W.Frag) (fA cA : Nat → Addr) : TS :=
  tSeq (tIfS (tTest (tOp (opK K .eq) (tVar 0) (tTupX (tNil)))) (tRet (tLst (tCons (tTupX (tNil)) (tNil)))) (tNext)) (tSeq (tIfS (tTest (tOp (opK K .eq) (tOp (opK K .ix) (tVar 0) (tC (.int 1))) (tUn (rU fun i => .int (-i)) (tC (.int 1))))) (tRet (tLst (tCons (tTupX (tNil)) (tCons (tVar 0) (tNil))))) (tNext)) (tRet (tLst (tCons (tTupX (tNil)) (tCons (tTupX (tCons (tOp (opK K .ix) (tVar 0) (tC (.int 0))) (tCons (tUn (rU fun i => .int (-i)) (tC (.int 1))) (tNil)))) (tCons (tVar 0) (tNil)))))))
theorem dnfreer_entries (K : PySem.W.Frag) (fA cA : Nat → Addr) : denS K E0 c_freer_entries = tmfreer_entries K fA cA := rfl
theorem htfreer_entries (T : Txt K mg fA fD cA cC cP base) (TL : TxL w cC cP)  (cdv : Value) (A : Around) (outer : List PySem.Env) (s : Shared) (H : Hp) (E : XK) (hr : Room 0 (A.deeper (envOfC "_freer_entries" (defScope sfreer_entries) s.heap.objs.size (fA 2) cdv))) :
    PSs ((cxOf CX0 P w K mg base ["entry"] "_freer_entries" (defScope sfreer_entries) (fA 2) cdv A outer s H E).nox) (defBody sfreer_entries) (tmfreer_entries K fA cA) :=
  pss_cons (ps_if (pt_cmpR (opr_eq hr.units) (pv 0) (pe_tupX (pa_nil)) (nomark _)) (pss_one (ps_ret (pe_lst (pa_cons (pe_tupX (pa_nil)) (pa_nil))))) (pss_nil))
    (pss_cons (ps_if (pt_cmpR (opr_eq hr.units) (pe_ix ix_seq (pv 0) (pe_int) (fun _ _ => rfl)) (pe_un un_neg (pe_int)) (nomark _)) (pss_one (ps_ret (pe_lst (pa_cons (pe_tupX (pa_nil)) (pa_cons (pv 0) (pa_nil)))))) (pss_nil))
    (pss_one (ps_ret (pe_lst (pa_cons (pe_tupX (pa_nil)) (pa_cons (pe_tupX (pa_cons (pe_ix ix_seq (pv 0) (pe_int) (fun _ _ => rfl)) (pa_cons (pe_un un_neg (pe_int)) (pa_nil)))) (pa_cons (pv 0) (pa_nil))))))))
theorem okfreer_entries (T : Txt K mg fA fD cA cC cP base) (TL : TxL w cC cP) : FnOk P w K mg base CX0 1 (fA 2) (fD 2) ["entry"] (spD (fun ds r => f_freer_entries ds = some r) K) :=
  def_D T.F_freer_entries scfreer_entries (fun _ _ h => len_D h) (t := denS K E0 c_freer_entries) (fun cdv A outer s H E hr => (dnfreer_entries K fA cA) ▸ htfreer_entries T TL  cdv A outer s H E hr) (fun _ _ h => run_D (side_of (by rfl)) h)
abbrev sfreer_stands : Stmt := topS 5
theorem scfreer_stands : FnScope ["stand", "found", "entry", "begun", "free"] ["stand"] (defScope sfreer_stands) := ⟨rfl, rfl, rfl, by decide +kernel, rfl, by decide +kernel, by decide +kernel⟩
def tmfreer_stands (K : PySem.W.Frag) (fA cA : Nat → Addr) : TS :=
  tSeq (tAsg (tLst (tCons (tTupX (tNil)) (tNil))) (gName 1)) (tSeq (tFor (uIter K (tVar 0)) (gName 2) (tAsg (tLc2 (uIter K (tVar 1)) (gName 3) tYes (uIter K (tCall (spD (fun ds r => f_freer_entries ds = some r) K) [] E0 (tCons (tVar 2) (tNil)))) (gName 4) tYes (tOp (opK K .add) (tVar 3) (tTupX (tCons (tVar 4) (tNil)))) [3, 4] [4]) (gName 1))) (tRet (tVar 1)))
theorem dnfreer_stands (K : PySem.W.Frag) (fA cA : Nat → Addr) : denS K E0 c_freer_stands = tmfreer_stands K fA cA := rfl
theorem htfreer_stands (T : Txt K mg fA fD cA cC cP base) (TL : TxL w cC cP) (G_freer_entries : FnOk P w K mg base CX0 1 (fA 2) (fD 2) ["entry"] (spD (fun ds r => f_freer_entries ds = some r) K)) (cdv : Value) (A : Around) (outer : List PySem.Env) (s : Shared) (H : Hp) (E : XK) (hr : Room 1 (A.deeper (envOfC "freer_stands" (defScope sfreer_stands) s.heap.objs.size (fA 5) cdv))) :
    PSs ((cxOf CX0 P w K mg base ["stand", "found", "entry", "begun", "free"] "freer_stands" (defScope sfreer_stands) (fA 5) cdv A outer s H E).nox) (defBody sfreer_stands) (tmfreer_stands K fA cA) :=
  pss_cons (ps_set (i := 1) scfreer_stands.nd rfl (by first | exact Or.inl rfl | exact Or.inr rfl) (pe_lst (pa_cons (pe_tupX (pa_nil)) (pa_nil))))
    (pss_cons (ps_for PassesOwn.never rfl (pi_u (pv 0)) (pg_name (i := 2) scfreer_stands.nd rfl (by first | exact Or.inl rfl | exact Or.inr rfl))
    (pss_one (ps_setLc2 (i := 1) (own := [("begun", 3), ("free", 4)]) (vs1 := [4]) (g := gName 3) (tt := tYes) (g1 := gName 4) (tt1 := tYes) rfl scfreer_stands.nd rfl rfl (sw_true rfl rfl rfl (by decide +kernel)) (pi_u (pv 1)) (blkOk_by (N := ["stand", "found", "entry", "begun", "free"]) (sc := defScope sfreer_stands) (by decide +kernel)) (by simp) (fun _ _ _ _ _ => pg_name (i := 3) scfreer_stands.nd rfl (by first | exact Or.inl rfl | exact Or.inr rfl)) (fun _ _ _ _ _ => pts_nil) (fun _ _ _ _ _ => pi_u (pe_call G_freer_entries (hr.mono (by decide)) (by rfl) T.g_freer_entries T.F_freer_entries.kp T.b_freer_entries .nil pass0 (pa_cons (pv 2) (pa_nil)))) (fun _ _ _ _ _ => pg_name (i := 4) scfreer_stands.nd rfl (by first | exact Or.inl rfl | exact Or.inr rfl)) (fun _ _ _ _ _ => pts_nil) (fun _ _ _ _ _ => pe_op opr_add (pv 3) (pe_tupX (pa_cons (pv 4) (pa_nil)))))))
    (pss_one (ps_ret (pv 1))))
theorem okfreer_stands (T : Txt K mg fA fD cA cC cP base) (TL : TxL w cC cP) : FnOk P w K mg base CX0 2 (fA 5) (fD 5) ["stand"] (spD (fun ds r => f_freer_stands ds = some r) K) :=
  def_D T.F_freer_stands scfreer_stands (fun _ _ h => len_D h) (t := denS K E0 c_freer_stands) (fun cdv A outer s H E hr => (dnfreer_stands K fA cA) ▸ htfreer_stands T TL (okfreer_entries T TL) cdv A outer s H E hr) (fun _ _ h => run_D (side_of (by rfl)) h)
abbrev shas_freer : Stmt := topS 4
theorem schas_freer : FnScope ["present", "stand"] ["present", "stand"] (defScope shas_freer) := ⟨rfl, rfl, rfl, by decide +kernel, rfl, by decide +kernel, by decide +kernel⟩
theorem hthas_freer (T : Txt K mg fA fD cA cC cP base) (TL : TxL w cC cP) (G_freer_stands : FnOk P w K mg base CX0 2 (fA 5) (fD 5) ["stand"] (spD (fun ds r => f_freer_stands ds = some r) K)) (A : Around) (outer : List PySem.Env) (s : Shared) (H : Hp) (E : XK) (hr : Room 2 (A.deeper (envOfC "_has_freer" (defScope shas_freer) s.heap.objs.size (fA 4) (.ref (cC 4))))) :
    PSs ((cxOf CX0 P w K mg base ["present", "stand"] "_has_freer" (defScope shas_freer) (fA 4) (.ref (cC 4)) A outer s H E).nox) (defBody shas_freer) (tRet (tAnyIn K 0 1 (tCall (spD (fun ds r => f_freer_stands ds = some r) K) [] E0 (tCons (tVar 1) tNil)))) :=
  pss_one (ps_ret (pe_anyInX (x := "other") (y := "present") (z := "stand") TL.wl TL.pt_has_freer hr (by rfl) T.n_any T.tb_has_freer rfl (pe_call G_freer_stands (hr.mono (by decide)) (by rfl) T.g_freer_stands T.F_freer_stands.kp T.b_freer_stands .nil pass0 (pa_cons (pv 1) pa_nil)) rfl rfl rfl rfl (by decide +kernel) rfl rfl rfl rfl (by decide +kernel) (by rfl) (by rfl) (fun _ => rfl)))
theorem okhas_freer (T : Txt K mg fA fD cA cC cP base) (TL : TxL w cC cP) : FnOk P w K mg base CX0 3 (fA 4) (fD 4) ["present", "stand"] (spHF f_has_freer K) :=
  def_HC T.q_has_freer schas_freer rfl rfl fun A outer s H E hr => hthas_freer T TL (okfreer_stands T TL) A outer s H E hr
abbrev sfreest : Stmt := topS 3
theorem scfreest : FnScope ["stands", "present", "stand"] ["stands"] (defScope sfreest) := ⟨rfl, rfl, rfl, by decide +kernel, rfl, by decide +kernel, by decide +kernel⟩
def tmfreest (K : PySem.W.Frag) (fA cA : Nat → Addr) : TS :=
  tSeq (tAsg (tXDc K (uIter K (tVar 0)) (gName 2) tYes (tVar 2) (tC (.bl true)) [2]) (gName 1)) (tRet (tLc (uIter K (tSrK K 1)) (gName 2) (tNot (tB (tCall (spHF f_has_freer K) [] E0 (tCons (tVar 1) (tCons (tVar 2) tNil))))) (tVar 2) [2]))
theorem dnfreest (K : PySem.W.Frag) (fA cA : Nat → Addr) : denS K E0 c_freest = tmfreest K fA cA := rfl
theorem htfreest (T : Txt K mg fA fD cA cC cP base) (TL : TxL w cC cP) (G_has_freer : FnOk P w K mg base CX0 3 (fA 4) (fD 4) ["present", "stand"] (spHF f_has_freer K)) (cdv : Value) (A : Around) (outer : List PySem.Env) (s : Shared) (H : Hp) (E : XK) (hr : Room 3 (A.deeper (envOfC "freest" (defScope sfreest) s.heap.objs.size (fA 3) cdv))) :
    PSs ((cxOf CX0 P w K mg base ["stands", "present", "stand"] "freest" (defScope sfreest) (fA 3) cdv A outer s H E).nox) (defBody sfreest) (tmfreest K fA cA) :=
  pss_cons (ps_set (i := 1) scfreest.nd rfl (by first | exact Or.inl rfl | exact Or.inr rfl) (pe_xdc TL.wl (Nat.lt_of_succ_lt (units65 hr)) (own := [("stand", 2)]) (g := gName 2) (tt := tYes) rfl scfreest.nd (pi_u (pv 0)) (blkOk_by (N := ["stands", "present", "stand"]) (sc := defScope sfreest) (by decide +kernel)) (fun _ _ _ _ _ => pg_name (i := 2) scfreest.nd rfl (by first | exact Or.inl rfl | exact Or.inr rfl)) (fun _ _ _ _ _ => pts_nil) (fun _ _ _ _ _ => pv 2) (fun _ _ _ _ _ => pe_bl)))
    (pss_one (ps_ret (pe_lc (own := [("stand", 2)]) (g := gName 2) (tt := tNot (tB (tCall (spHF f_has_freer K) [] E0 (tCons (tVar 1) (tCons (tVar 2) tNil))))) rfl scfreest.nd (pi_u (pe_callB (cr_srtD (Nat.lt_of_succ_lt (units65 hr))) (by rfl) T.n_sorted (by decide +kernel) (pa_cons (pe_callTy (cr_lstT TL.wl rfl) (by rfl) T.n_list (by decide +kernel) (pa_cons (pv 1) pa_nil)) pa_nil))) (blkOk_by (N := ["stands", "present", "stand"]) (sc := defScope sfreest) (by decide +kernel)) (fun _ _ _ _ _ => pg_name (i := 2) scfreest.nd rfl (by first | exact Or.inl rfl | exact Or.inr rfl)) (fun _ _ _ _ _ => pts_one (pt_not (pt_val (pe_call G_has_freer (hr.mono (by decide)) (by rfl) T.g_has_freer T.F_has_freer.kp T.b_has_freer .nil pass0 (pa_cons (pv 1) (pa_cons (pv 2) pa_nil)))))) (fun _ _ _ _ _ => pv 2))))
theorem okfreest (T : Txt K mg fA fD cA cC cP base) (TL : TxL w cC cP) : FnOk P w K mg base CX0 4 (fA 3) (fD 3) ["stands"] (spD (fun ds r => f_freest ds = some r) K) :=
  def_D T.F_freest scfreest (fun _ _ h => len_D h) (t := denS K E0 c_freest) (fun cdv A outer s H E hr => (dnfreest K fA cA) ▸ htfreest T TL (okhas_freer T TL) cdv A outer s H E hr) (fun _ _ h => run_D (side_of (by rfl)) h)
abbrev sl_next : Stmt := topS 8
theorem scl_next : FnScope ["state", "many", "turn"] ["state", "many"] (defScope sl_next) := ⟨rfl, rfl, rfl, by decide +kernel, rfl, by decide +kernel, by decide +kernel⟩
def tml_next (K : PySem.W.Frag) (fA cA : Nat → Addr) : TS :=
  tSeq (tAsg (tOp (opK K .add) (tOp (opK K .ix) (tVar 0) (tC (.int 1))) (tC (.int 1))) (gSub (tVar 0) (tC (.int 1)) rSetL)) (tSeq (tAsg (tOp (opK K .fdiv) (tOp (opK K .ix) (tVar 0) (tC (.int 1))) (tCB (bfK K .len) (tCons (tOp (opK K .ix) (tVar 0) (tC (.int 0))) (tNil)))) (gName 2)) (tRet (tOp (opK K .mod) (tCB (bfK K .int) (tCons (tOp (opK K .add) (tOp (opK K .add) (tOp (opK K .ix) (tOp (opK K .ix) (tVar 0) (tC (.int 0))) (tOp (opK K .mod) (tOp (opK K .ix) (tVar 0) (tC (.int 1))) (tCB (bfK K .len) (tCons (tOp (opK K .ix) (tVar 0) (tC (.int 0))) (tNil))))) (tOp (opK K .mul) (tVar 2) (tC (.int 389)))) (tOp (opK K .mul) (tOp (opK K .mul) (tOp (opK K .ix) (tVar 0) (tC (.int 1))) (tVar 2)) (tC (.int 17)))) (tNil))) (tVar 1))))
theorem dnl_next (K : PySem.W.Frag) (fA cA : Nat → Addr) : denS K E0 c_l_next = tml_next K fA cA := rfl
theorem htl_next (T : Txt K mg fA fD cA cC cP base) (TL : TxL w cC cP)  (cdv : Value) (A : Around) (outer : List PySem.Env) (s : Shared) (H : Hp) (E : XK) (hr : Room 0 (A.deeper (envOfC "_law_next" (defScope sl_next) s.heap.objs.size (fA 8) cdv))) :
    PSs ((cxOf CX0 P w K mg base ["state", "many", "turn"] "_law_next" (defScope sl_next) (fA 8) cdv A outer s H E).nox) (defBody sl_next) (tml_next K fA cA) :=
  pss_cons (ps_asg (pe_op opr_add (pe_ix ix_seq (pv 0) (pe_int) (fun _ _ => rfl)) (pe_int)) (pg_sub (pv 0) (pe_int) set_list))
    (pss_cons (ps_set (i := 2) scl_next.nd rfl (by first | exact Or.inl rfl | exact Or.inr rfl) (pe_op opr_fdiv (pe_ix ix_seq (pv 0) (pe_int) (fun _ _ => rfl)) (pe_callB cf_len (by rfl) T.n_len PySem.boot_len (pa_cons (pe_ix ix_seq (pv 0) (pe_int) (fun _ _ => rfl)) (pa_nil)))))
    (pss_one (ps_ret (pe_op opr_mod (pe_callTy cf_int (by rfl) T.n_int (by decide +kernel) (pa_cons (pe_op opr_add (pe_op opr_add (pe_ix ix_seq (pe_ix ix_seq (pv 0) (pe_int) (fun _ _ => rfl)) (pe_op opr_mod (pe_ix ix_seq (pv 0) (pe_int) (fun _ _ => rfl)) (pe_callB cf_len (by rfl) T.n_len PySem.boot_len (pa_cons (pe_ix ix_seq (pv 0) (pe_int) (fun _ _ => rfl)) (pa_nil)))) (fun _ _ => rfl)) (pe_op opr_mul (pv 2) (pe_int))) (pe_op opr_mul (pe_op opr_mul (pe_ix ix_seq (pv 0) (pe_int) (fun _ _ => rfl)) (pv 2)) (pe_int))) (pa_nil))) (pv 1)))))
theorem okl_next (T : Txt K mg fA fD cA cC cP base) (TL : TxL w cC cP) : FnOk P w K mg base CX0 1 (fA 8) (fD 8) ["state", "many"] (spS (fun st ds r st' => f_l_next st ds = some (r, st')) K) :=
  def_S T.F_l_next scl_next (fun _ _ _ _ h => len_S h) (t := denS K E0 c_l_next) (fun cdv A outer s H E hr => (dnl_next K fA cA) ▸ htl_next T TL  cdv A outer s H E hr) (fun _ _ _ _ h => run_S (side_of (by rfl)) h)
abbrev sl_freer : Stmt := topS 9
theorem scl_freer : FnScope ["first", "second", "k"] ["first", "second"] (defScope sl_freer) := ⟨rfl, rfl, rfl, by decide +kernel, rfl, by decide +kernel, by decide +kernel⟩
def tml_freer (K : PySem.W.Frag) (fA cA : Nat → Addr) : TS :=
  tSeq (tFor (iRng1 (tCons (tCB (bfK K .len) (tCons (tVar 0) (tNil))) (tNil))) (gName 2) (tIfS (tAnd (tTest (tOp (opK K .gt) (tCB (bfK K .len) (tCons (tOp (opK K .ix) (tVar 0) (tVar 2)) (tNil))) (tC (.int 0)))) (tOr (tTest (tOp (opK K .eq) (tCB (bfK K .len) (tCons (tOp (opK K .ix) (tVar 1) (tVar 2)) (tNil))) (tC (.int 0)))) (tOr (tTest (tOp (opK K .ne) (tOp (opK K .ix) (tOp (opK K .ix) (tVar 0) (tVar 2)) (tC (.int 0))) (tOp (opK K .ix) (tOp (opK K .ix) (tVar 1) (tVar 2)) (tC (.int 0))))) (tTest (tOp (opK K .notIn) (tOp (opK K .ix) (tOp (opK K .ix) (tVar 0) (tVar 2)) (tC (.int 1))) (tLst (tCons (tUn (rU fun i => .int (-i)) (tC (.int 1))) (tCons (tOp (opK K .ix) (tOp (opK K .ix) (tVar 1) (tVar 2)) (tC (.int 1))) (tNil))))))))) (tRet (tC (.bl false))) (tNext))) (tRet (tC (.bl true)))
theorem dnl_freer (K : PySem.W.Frag) (fA cA : Nat → Addr) : denS K E0 c_l_freer = tml_freer K fA cA := rfl
theorem htl_freer (T : Txt K mg fA fD cA cC cP base) (TL : TxL w cC cP)  (cdv : Value) (A : Around) (outer : List PySem.Env) (s : Shared) (H : Hp) (E : XK) (hr : Room 0 (A.deeper (envOfC "_law_freer" (defScope sl_freer) s.heap.objs.size (fA 9) cdv))) :
    PSs ((cxOf CX0 P w K mg base ["first", "second", "k"] "_law_freer" (defScope sl_freer) (fA 9) cdv A outer s H E).nox) (defBody sl_freer) (tml_freer K fA cA) :=
  pss_cons (ps_for PassesOwn.never rfl (pi_range1 (by rfl) T.n_range (pa_cons (pe_callB cf_len (by rfl) T.n_len PySem.boot_len (pa_cons (pv 0) (pa_nil))) (pa_nil))) (pg_name (i := 2) scl_freer.nd rfl (by first | exact Or.inl rfl | exact Or.inr rfl))
    (pss_one (ps_if ((pw_and (pt_cmpR opr_gt (pe_callB cf_len (by rfl) T.n_len PySem.boot_len (pa_cons (pe_ix ix_seq (pv 0) (pv 2) (fun _ _ => rfl)) (pa_nil))) (pe_int) (nomark _)) (pw_and1 ((pw_or (pt_cmpR (opr_eq hr.units) (pe_callB cf_len (by rfl) T.n_len PySem.boot_len (pa_cons (pe_ix ix_seq (pv 1) (pv 2) (fun _ _ => rfl)) (pa_nil))) (pe_int) (nomark _)) (pw_or (pt_cmpR (opr_ne hr.units) (pe_ix ix_seq (pe_ix ix_seq (pv 0) (pv 2) (fun _ _ => rfl)) (pe_int) (fun _ _ => rfl)) (pe_ix ix_seq (pe_ix ix_seq (pv 1) (pv 2) (fun _ _ => rfl)) (pe_int) (fun _ _ => rfl)) (nomark _)) (pw_or1 (pt_cmpR (opr_notIn (units65 hr)) (pe_ix ix_seq (pe_ix ix_seq (pv 0) (pv 2) (fun _ _ => rfl)) (pe_int) (fun _ _ => rfl)) (pe_lst (pa_cons (pe_un un_neg (pe_int)) (pa_cons (pe_ix ix_seq (pe_ix ix_seq (pv 1) (pv 2) (fun _ _ => rfl)) (pe_int) (fun _ _ => rfl)) (pa_nil)))) rfl)))).pt))).pt) (pss_one (ps_ret (pe_bl))) (pss_nil))))
    (pss_one (ps_ret (pe_bl)))
theorem okl_freer (T : Txt K mg fA fD cA cC cP base) (TL : TxL w cC cP) : FnOk P w K mg base CX0 1 (fA 9) (fD 9) ["first", "second"] (spD (fun ds r => f_l_freer ds = some r) K) :=
  def_D T.F_l_freer scl_freer (fun _ _ h => len_D h) (t := denS K E0 c_l_freer) (fun cdv A outer s H E hr => (dnl_freer K fA cA) ▸ htl_freer T TL  cdv A outer s H E hr) (fun _ _ h => run_D (side_of (by rfl)) h)
abbrev sl_freest : Stmt := topS 10
theorem scl_freest : FnScope ["stands", "found", "one", "other"] ["stands"] (defScope sl_freest) := ⟨rfl, rfl, rfl, by decide +kernel, rfl, by decide +kernel, by decide +kernel⟩
def tml_freest (K : PySem.W.Frag) (fA cA : Nat → Addr) : TS :=
  tSeq (tAsg (tLst (tNil)) (gName 1)) (tSeq (tFor (uIter K (tSrts K (tVar 0))) (gName 2) (tIfS (tNot (tB (tCB (bfK K .any) (tCons (tLc (uIter K (tVar 0)) (gName 3) (tYes) (tAndV (tOp (opK K .ne) (tVar 3) (tVar 2)) (tCall (spD (fun ds r => f_l_freer ds = some r) K) [] E0 (tCons (tVar 3) (tCons (tVar 2) (tNil))))) [3]) (tNil))))) (tDrop (tBM K "list" rAppend (tVar 1) (tCons (tVar 2) tNil))) (tNext))) (tRet (tVar 1)))
theorem dnl_freest (K : PySem.W.Frag) (fA cA : Nat → Addr) : denS K E0 c_l_freest = tml_freest K fA cA := rfl
theorem htl_freest (T : Txt K mg fA fD cA cC cP base) (TL : TxL w cC cP) (G_l_freer : FnOk P w K mg base CX0 1 (fA 9) (fD 9) ["first", "second"] (spD (fun ds r => f_l_freer ds = some r) K)) (cdv : Value) (A : Around) (outer : List PySem.Env) (s : Shared) (H : Hp) (E : XK) (gA : A.guards = some []) (hr : Room 1 (A.deeper (envOfC "_law_freest" (defScope sl_freest) s.heap.objs.size (fA 10) cdv))) :
    PSs ((cxOf CX0 P w K mg base ["stands", "found", "one", "other"] "_law_freest" (defScope sl_freest) (fA 10) cdv A outer s H E).nox) (defBody sl_freest) (tml_freest K fA cA) :=
  pss_cons (ps_set (i := 1) scl_freest.nd rfl (by first | exact Or.inl rfl | exact Or.inr rfl) (pe_lst (pa_nil)))
    (pss_cons (ps_for PassesOwn.never rfl (pi_u (pe_callB (cr_srtN TL.wl rfl (units70 hr)) (by rfl) T.n_sorted (by decide +kernel) (pa_cons (pe_callTy (cr_setN TL.wl rfl (Nat.lt_of_succ_lt (units65 hr))) (by rfl) T.n_set (by decide +kernel) (pa_cons (pv 0) pa_nil)) pa_nil))) (pg_name (i := 2) scl_freest.nd rfl (by first | exact Or.inl rfl | exact Or.inr rfl))
    (pss_one (ps_if (pt_not (pt_val (pe_callB (cf_any rfl) (by rfl) T.n_any (by decide +kernel) (pa_cons (pe_lc (own := [("other", 3)]) (g := gName 3) (tt := tYes) rfl scl_freest.nd (pi_u (pv 0)) (blkOk_by (N := ["stands", "found", "one", "other"]) (sc := defScope sl_freest) (by decide +kernel)) (fun _ _ _ _ _ => pg_name (i := 3) scl_freest.nd rfl (by first | exact Or.inl rfl | exact Or.inr rfl)) (fun _ _ _ _ _ => pts_nil) (fun _ _ _ _ _ => pe_and (pe_cmpR (opr_ne hr.units) (pv 3) (pv 2) (nomark _)) (pe_one (pe_call G_l_freer (hr.mono (by decide)) (by rfl) T.g_l_freer T.F_l_freer.kp T.b_l_freer .nil pass0 (pa_cons (pv 3) (pa_cons (pv 2) (pa_nil))))))) (pa_nil))))) (pss_one (ps_expr (pe_bm PySem.F.plainAttrs_list PySem.F.slot_list_append PySem.F.type_list_append mt_append (pv 1) (pa_cons (pv 2) pa_nil)))) (pss_nil))))
    (pss_one (ps_ret (pv 1))))
theorem okl_freest (T : Txt K mg fA fD cA cC cP base) (TL : TxL w cC cP) : FnG P w K mg base CX0 2 (fA 10) (fD 10) ["stands"] (spD (fun ds r => f_l_freest ds = some r) K) :=
  def_DG T.F_l_freest scl_freest (fun _ _ h => len_D h) (t := denS K E0 c_l_freest) (fun cdv A outer s H E gA hr => (dnl_freest K fA cA) ▸ htl_freest T TL (okl_freer T TL) cdv A outer s H E gA hr) (fun _ _ h => run_D (side_of (by rfl)) h)
abbrev sfreer : Stmt := topS 1
theorem scfreer : FnScope ["first", "second", "at", "entry"] ["first", "second"] (defScope sfreer) := ⟨rfl, rfl, rfl, by decide +kernel, rfl, by decide +kernel, by decide +kernel⟩
def tmfreer (K : PySem.W.Frag) (fA cA : Nat → Addr) : TS :=
  tSeq (tFor (iEnT K (tCons (tVar 0) tNil)) (gTup K 2 (gCons (gName 2) (gCons (gName 3) (gNil)))) (tIfS (tTest (tOp (opK K .notIn) (tVar 3) (tCall (spD (fun ds r => f_freer_entries ds = some r) K) [] E0 (tCons (tOp (opK K .ix) (tVar 1) (tVar 2)) (tNil))))) (tRet (tC (.bl false))) (tNext))) (tRet (tC (.bl true)))
theorem dnfreer (K : PySem.W.Frag) (fA cA : Nat → Addr) : denS K E0 c_freer = tmfreer K fA cA := rfl
theorem htfreer (T : Txt K mg fA fD cA cC cP base) (TL : TxL w cC cP) (G_freer_entries : FnOk P w K mg base CX0 1 (fA 2) (fD 2) ["entry"] (spD (fun ds r => f_freer_entries ds = some r) K)) (cdv : Value) (A : Around) (outer : List PySem.Env) (s : Shared) (H : Hp) (E : XK) (hr : Room 1 (A.deeper (envOfC "freer" (defScope sfreer) s.heap.objs.size (fA 1) cdv))) :
    PSs ((cxOf CX0 P w K mg base ["first", "second", "at", "entry"] "freer" (defScope sfreer) (fA 1) cdv A outer s H E).nox) (defBody sfreer) (tmfreer K fA cA) :=
  pss_cons (ps_for PassesOwn.never rfl (pi_enumT (by rfl) T.n_enumerate (pa_cons (pv 0) pa_nil)) (pg_tup rfl (pgs_cons (pg_name (i := 2) scfreer.nd rfl (by first | exact Or.inl rfl | exact Or.inr rfl)) (pgs_cons (pg_name (i := 3) scfreer.nd rfl (by first | exact Or.inl rfl | exact Or.inr rfl)) (pgs_nil))))
    (pss_one (ps_if (pt_cmpR (opr_notIn (units65 hr)) (pv 3) (pe_call G_freer_entries (hr.mono (by decide)) (by rfl) T.g_freer_entries T.F_freer_entries.kp T.b_freer_entries .nil pass0 (pa_cons (pe_ix ix_seq (pv 1) (pv 2) (fun _ _ => rfl)) (pa_nil))) rfl) (pss_one (ps_ret (pe_bl))) (pss_nil))))
    (pss_one (ps_ret (pe_bl)))
theorem okfreer (T : Txt K mg fA fD cA cC cP base) (TL : TxL w cC cP) : FnOk P w K mg base CX0 2 (fA 1) (fD 1) ["first", "second"] (spD (fun ds r => f_freer ds = some r) K) :=
  def_D T.F_freer scfreer (fun _ _ h => len_D h) (t := denS K E0 c_freer) (fun cdv A outer s H E hr => (dnfreer K fA cA) ▸ htfreer T TL (okfreer_entries T TL) cdv A outer s H E hr) (fun _ _ h => run_D (side_of (by rfl)) h)
abbrev sl_entry : Stmt := topS 11
theorem scl_entry : FnScope ["state", "most"] ["state", "most"] (defScope sl_entry) := ⟨rfl, rfl, rfl, by decide +kernel, rfl, by decide +kernel, by decide +kernel⟩
def tml_entry (K : PySem.W.Frag) (fA cA : Nat → Addr) : TS :=
  tRet (tOp (opK K .ix) (tLst (tCons (tTupX (tNil)) (tCons (tTupX (tCons (tOp (opK K .sub) (tCall (spS (fun st ds r st' => f_l_next st ds = some (r, st')) K) [] E0 (tCons (tVar 0) (tCons (tVar 1) (tNil)))) (tC (.int 1))) (tCons (tOp (opK K .sub) (tCall (spS (fun st ds r st' => f_l_next st ds = some (r, st')) K) [] E0 (tCons (tVar 0) (tCons (tVar 1) (tNil)))) (tC (.int 1))) (tNil)))) (tCons (tTupX (tCons (tOp (opK K .sub) (tCall (spS (fun st ds r st' => f_l_next st ds = some (r, st')) K) [] E0 (tCons (tVar 0) (tCons (tVar 1) (tNil)))) (tC (.int 1))) (tCons (tUn (rU fun i => .int (-i)) (tC (.int 1))) (tNil)))) (tNil))))) (tCall (spS (fun st ds r st' => f_l_next st ds = some (r, st')) K) [] E0 (tCons (tVar 0) (tCons (tC (.int 3)) (tNil)))))
theorem dnl_entry (K : PySem.W.Frag) (fA cA : Nat → Addr) : denS K E0 c_l_entry = tml_entry K fA cA := rfl
theorem htl_entry (T : Txt K mg fA fD cA cC cP base) (TL : TxL w cC cP) (G_l_next : FnOk P w K mg base CX0 1 (fA 8) (fD 8) ["state", "many"] (spS (fun st ds r st' => f_l_next st ds = some (r, st')) K)) (cdv : Value) (A : Around) (outer : List PySem.Env) (s : Shared) (H : Hp) (E : XK) (hr : Room 1 (A.deeper (envOfC "_law_entry" (defScope sl_entry) s.heap.objs.size (fA 11) cdv))) :
    PSs ((cxOf CX0 P w K mg base ["state", "most"] "_law_entry" (defScope sl_entry) (fA 11) cdv A outer s H E).nox) (defBody sl_entry) (tml_entry K fA cA) :=
  pss_one (ps_ret (pe_ix ix_seq (pe_lst (pa_cons (pe_tupX (pa_nil)) (pa_cons (pe_tupX (pa_cons (pe_op opr_sub (pe_call G_l_next (hr.mono (by decide)) (by rfl) T.g_l_next T.F_l_next.kp T.b_l_next .nil pass0 (pa_cons (pv 0) (pa_cons (pv 1) (pa_nil)))) (pe_int)) (pa_cons (pe_op opr_sub (pe_call G_l_next (hr.mono (by decide)) (by rfl) T.g_l_next T.F_l_next.kp T.b_l_next .nil pass0 (pa_cons (pv 0) (pa_cons (pv 1) (pa_nil)))) (pe_int)) (pa_nil)))) (pa_cons (pe_tupX (pa_cons (pe_op opr_sub (pe_call G_l_next (hr.mono (by decide)) (by rfl) T.g_l_next T.F_l_next.kp T.b_l_next .nil pass0 (pa_cons (pv 0) (pa_cons (pv 1) (pa_nil)))) (pe_int)) (pa_cons (pe_un un_neg (pe_int)) (pa_nil)))) (pa_nil))))) (pe_call G_l_next (hr.mono (by decide)) (by rfl) T.g_l_next T.F_l_next.kp T.b_l_next .nil pass0 (pa_cons (pv 0) (pa_cons (pe_int) (pa_nil)))) (fun _ _ => rfl)))
theorem okl_entry (T : Txt K mg fA fD cA cC cP base) (TL : TxL w cC cP) : FnOk P w K mg base CX0 2 (fA 11) (fD 11) ["state", "most"] (spS (fun st ds r st' => f_l_entry st ds = some (r, st')) K) :=
  def_S T.F_l_entry scl_entry (fun _ _ _ _ h => len_S h) (t := denS K E0 c_l_entry) (fun cdv A outer s H E hr => (dnl_entry K fA cA) ▸ htl_entry T TL (okl_next T TL) cdv A outer s H E hr) (fun _ _ _ _ h => run_S (side_of (by rfl)) h)
abbrev slaw : Stmt := topS 12
theorem sclaw : FnScope ["script", "state", "turn", "height", "most", "stands", "k", "kept", "told", "stand", "old", "at", "one", "other", "due", "found", "j"] ["script"] (defScope slaw) := ⟨rfl, rfl, rfl, by decide +kernel, rfl, by decide +kernel, by decide +kernel⟩
def tmlaw (K : PySem.W.Frag) (fA cA : Nat → Addr) : TS :=
  tSeq (tAsg (tLst (tCons (tCall (spD (fun ds r => f_l_stream ds = some r) K) [] E0 (tCons (tVar 0) (tNil))) (tCons (tC (.int 0)) (tNil)))) (gName 1)) (tSeq (tFor (iRng1 (tCons (tC (.int 4)) (tNil))) (gName 2) (tSeq (tAsg (tOp (opK K .add) (tC (.int 1)) (tCall (spS (fun st ds r st' => f_l_next st ds = some (r, st')) K) [] E0 (tCons (tVar 1) (tCons (tC (.int 4)) (tNil))))) (gName 3)) (tSeq (tAsg (tOp (opK K .ix) (tLst (tCons (tC (.int 2)) (tCons (tC (.int 3)) (tCons (tC (.int 41)) (tNil))))) (tCall (spS (fun st ds r st' => f_l_next st ds = some (r, st')) K) [] E0 (tCons (tVar 1) (tCons (tC (.int 3)) (tNil))))) (gName 4)) (tSeq (tAsg (tLst (tNil)) (gName 5)) (tSeq (tFor (iRng1 (tCons (tCall (spS (fun st ds r st' => f_l_next st ds = some (r, st')) K) [] E0 (tCons (tVar 1) (tCons (tC (.int 25)) (tNil)))) (tNil))) (gName 6) (tSeq (tAsg (tCB (bfK K .tuple) (tCons (tLc (iRng1 (tCons (tVar 3) (tNil))) (gName 16) (tYes) (tCall (spS (fun st ds r st' => f_l_entry st ds = some (r, st')) K) [] E0 (tCons (tVar 1) (tCons (tVar 4) (tNil)))) [16]) (tNil))) (gName 9)) (tSeq (tIfS (tAnd (tTest (tOp (opK K .gt) (tCB (bfK K .len) (tCons (tVar 5) (tNil))) (tC (.int 0)))) (tTest (tOp (opK K .gt) (tCall (spS (fun st ds r st' => f_l_next st ds = some (r, st')) K) [] E0 (tCons (tVar 1) (tCons (tC (.int 3)) (tNil)))) (tC (.int 0))))) (tSeq (tAsg (tOp (opK K .ix) (tVar 5) (tCall (spS (fun st ds r st' => f_l_next st ds = some (r, st')) K) [] E0 (tCons (tVar 1) (tCons (tCB (bfK K .len) (tCons (tVar 5) (tNil))) (tNil))))) (gName 10)) (tSeq (tAsg (tCall (spS (fun st ds r st' => f_l_next st ds = some (r, st')) K) [] E0 (tCons (tVar 1) (tCons (tVar 3) (tNil)))) (gName 11)) (tAsg (tOp (opK K .add) (tOp (opK K .add) (tSl (rSlU K) (tVar 10) (tNoPart) (tPart (tVar 11))) (tTupX (tCons (tOp (opK K .ix) (tVar 9) (tVar 11)) (tNil)))) (tSl (rSlU K) (tVar 10) (tPart (tOp (opK K .add) (tVar 11) (tC (.int 1)))) (tNoPart))) (gName 9)))) (tNext)) (tDrop (tBM K "list" rAppend (tVar 5) (tCons (tVar 9) tNil)))))) (tSeq (tAsg (tCB (bfK K .list) (tCons (tVar 5) (tNil))) (gName 7)) (tSeq (tAsg (tCall (spD (fun ds r => f_freest ds = some r) K) [] E0 (tCons (tVar 5) (tNil))) (gName 8)) (tSeq (tIfS (tOr (tTest (tOp (opK K .ne) (tVar 8) (tCall (spD (fun ds r => f_l_freest ds = some r) K) [] E0 (tCons (tVar 7) (tNil))))) (tOr (tTest (tOp (opK K .ne) (tVar 5) (tVar 7))) (tNot (tB (tCB (rIsaB K) (tCons (tVar 8) (tCons (tC (.ty "list")) tNil))))))) (tRet (tC (.bl false))) (tNext)) (tFor (iRng1 (tCons (tC (.int 6)) (tNil))) (gName 6) (tIfS (tTest (tOp (opK K .gt) (tCB (bfK K .len) (tCons (tVar 5) (tNil))) (tC (.int 0)))) (tSeq (tAsg (tOp (opK K .ix) (tVar 5) (tCall (spS (fun st ds r st' => f_l_next st ds = some (r, st')) K) [] E0 (tCons (tVar 1) (tCons (tCB (bfK K .len) (tCons (tVar 5) (tNil))) (tNil))))) (gName 12)) (tSeq (tAsg (tOp (opK K .ix) (tVar 5) (tCall (spS (fun st ds r st' => f_l_next st ds = some (r, st')) K) [] E0 (tCons (tVar 1) (tCons (tCB (bfK K .len) (tCons (tVar 5) (tNil))) (tNil))))) (gName 13)) (tSeq (tAsg (tCall (spD (fun ds r => f_l_freer ds = some r) K) [] E0 (tCons (tVar 12) (tCons (tVar 13) (tNil)))) (gName 14)) (tSeq (tAsg (tCall (spD (fun ds r => f_freer ds = some r) K) [] E0 (tCons (tVar 12) (tCons (tVar 13) (tNil)))) (gName 15)) (tIfS (tOr (tNot (tB (tCB (rIsaB K) (tCons (tVar 15) (tCons (tC (.ty "bool")) tNil))))) (tOr (tTest (tOp (opK K .ne) (tVar 15) (tVar 14))) (tNot (tB (tCall (spD (fun ds r => f_freer ds = some r) K) [] E0 (tCons (tVar 12) (tCons (tVar 12) (tNil)))))))) (tRet (tC (.bl false))) (tNext)))))) (tNext))))))))))) (tRet (tC (.bl true))))
theorem dnlaw (K : PySem.W.Frag) (fA cA : Nat → Addr) : denS K E0 c_law_16 = tmlaw K fA cA := rfl
theorem htlaw (T : Txt K mg fA fD cA cC cP base) (TL : TxL w cC cP) (G_freer : FnOk P w K mg base CX0 2 (fA 1) (fD 1) ["first", "second"] (spD (fun ds r => f_freer ds = some r) K)) (G_l_freer : FnOk P w K mg base CX0 1 (fA 9) (fD 9) ["first", "second"] (spD (fun ds r => f_l_freer ds = some r) K)) (G_l_next : FnOk P w K mg base CX0 1 (fA 8) (fD 8) ["state", "many"] (spS (fun st ds r st' => f_l_next st ds = some (r, st')) K)) (G_l_freest : FnG P w K mg base CX0 2 (fA 10) (fD 10) ["stands"] (spD (fun ds r => f_l_freest ds = some r) K)) (G_freest : FnOk P w K mg base CX0 4 (fA 3) (fD 3) ["stands"] (spD (fun ds r => f_freest ds = some r) K)) (G_l_entry : FnOk P w K mg base CX0 2 (fA 11) (fD 11) ["state", "most"] (spS (fun st ds r st' => f_l_entry st ds = some (r, st')) K)) (G_l_stream : FnOk P w K mg base CX0 1 (fA 7) (fD 7) ["script"] (spD (fun ds r => f_l_stream ds = some r) K)) (cdv : Value) (A : Around) (outer : List PySem.Env) (s : Shared) (H : Hp) (E : XK) (gA : A.guards = some []) (hr : Room 4 (A.deeper (envOfC "law" (defScope slaw) s.heap.objs.size (fA 12) cdv))) :
    PSs ((cxOf CX0 P w K mg base ["script", "state", "turn", "height", "most", "stands", "k", "kept", "told", "stand", "old", "at", "one", "other", "due", "found", "j"] "law" (defScope slaw) (fA 12) cdv A outer s H E).nox) (defBody slaw) (tmlaw K fA cA) :=
  pss_cons (ps_set (i := 1) sclaw.nd rfl (by first | exact Or.inl rfl | exact Or.inr rfl) (pe_lst (pa_cons (pe_call G_l_stream (hr.mono (by decide)) (by rfl) T.g_l_stream T.F_l_stream.kp T.b_l_stream .nil pass0 (pa_cons (pv 0) (pa_nil))) (pa_cons (pe_int) (pa_nil)))))
    (pss_cons (ps_for PassesOwn.never rfl (pi_range1 (by rfl) T.n_range (pa_cons (pe_int) (pa_nil))) (pg_name (i := 2) sclaw.nd rfl (by first | exact Or.inl rfl | exact Or.inr rfl))
    (pss_cons (ps_set (i := 3) sclaw.nd rfl (by first | exact Or.inl rfl | exact Or.inr rfl) (pe_op opr_add (pe_int) (pe_call G_l_next (hr.mono (by decide)) (by rfl) T.g_l_next T.F_l_next.kp T.b_l_next .nil pass0 (pa_cons (pv 1) (pa_cons (pe_int) (pa_nil))))))
    (pss_cons (ps_set (i := 4) sclaw.nd rfl (by first | exact Or.inl rfl | exact Or.inr rfl) (pe_ix ix_seq (pe_lst (pa_cons (pe_int) (pa_cons (pe_int) (pa_cons (pe_int) (pa_nil))))) (pe_call G_l_next (hr.mono (by decide)) (by rfl) T.g_l_next T.F_l_next.kp T.b_l_next .nil pass0 (pa_cons (pv 1) (pa_cons (pe_int) (pa_nil)))) (fun _ _ => rfl)))
    (pss_cons (ps_set (i := 5) sclaw.nd rfl (by first | exact Or.inl rfl | exact Or.inr rfl) (pe_lst (pa_nil)))
    (pss_cons (ps_for PassesOwn.never rfl (pi_range1 (by rfl) T.n_range (pa_cons (pe_call G_l_next (hr.mono (by decide)) (by rfl) T.g_l_next T.F_l_next.kp T.b_l_next .nil pass0 (pa_cons (pv 1) (pa_cons (pe_int) (pa_nil)))) (pa_nil))) (pg_name (i := 6) sclaw.nd rfl (by first | exact Or.inl rfl | exact Or.inr rfl))
    (pss_cons (ps_set (i := 9) sclaw.nd rfl (by first | exact Or.inl rfl | exact Or.inr rfl) (pe_callTy cf_tuple (by rfl) T.n_tuple (by decide +kernel) (pa_cons (pe_lc (own := [("j", 16)]) (g := gName 16) (tt := tYes) rfl sclaw.nd (pi_range1 (by rfl) T.n_range (pa_cons (pv 3) (pa_nil))) (blkOk_by (N := ["script", "state", "turn", "height", "most", "stands", "k", "kept", "told", "stand", "old", "at", "one", "other", "due", "found", "j"]) (sc := defScope slaw) (by decide +kernel)) (fun _ _ _ _ _ => pg_name (i := 16) sclaw.nd rfl (by first | exact Or.inl rfl | exact Or.inr rfl)) (fun _ _ _ _ _ => pts_nil) (fun _ _ _ _ _ => pe_call G_l_entry (hr.mono (by decide)) (by rfl) T.g_l_entry T.F_l_entry.kp T.b_l_entry .nil pass0 (pa_cons (pv 1) (pa_cons (pv 4) (pa_nil))))) (pa_nil))))
    (pss_cons (ps_if ((pw_and (pt_cmpR opr_gt (pe_callB cf_len (by rfl) T.n_len PySem.boot_len (pa_cons (pv 5) (pa_nil))) (pe_int) (nomark _)) (pw_and1 (pt_cmpR opr_gt (pe_call G_l_next (hr.mono (by decide)) (by rfl) T.g_l_next T.F_l_next.kp T.b_l_next .nil pass0 (pa_cons (pv 1) (pa_cons (pe_int) (pa_nil)))) (pe_int) (nomark _)))).pt) (pss_cons (ps_set (i := 10) sclaw.nd rfl (by first | exact Or.inl rfl | exact Or.inr rfl) (pe_ix ix_seq (pv 5) (pe_call G_l_next (hr.mono (by decide)) (by rfl) T.g_l_next T.F_l_next.kp T.b_l_next .nil pass0 (pa_cons (pv 1) (pa_cons (pe_callB cf_len (by rfl) T.n_len PySem.boot_len (pa_cons (pv 5) (pa_nil))) (pa_nil)))) (fun _ _ => rfl)))
    (pss_cons (ps_set (i := 11) sclaw.nd rfl (by first | exact Or.inl rfl | exact Or.inr rfl) (pe_call G_l_next (hr.mono (by decide)) (by rfl) T.g_l_next T.F_l_next.kp T.b_l_next .nil pass0 (pa_cons (pv 1) (pa_cons (pv 3) (pa_nil)))))
    (pss_one (ps_set (i := 9) sclaw.nd rfl (by first | exact Or.inl rfl | exact Or.inr rfl) (pe_op opr_add (pe_op opr_add (pe_slice sl_u (pv 10) (po_none) (po_some (pv 11))) (pe_tupX (pa_cons (pe_ix ix_seq (pv 9) (pv 11) (fun _ _ => rfl)) (pa_nil)))) (pe_slice sl_u (pv 10) (po_some (pe_op opr_add (pv 11) (pe_int))) (po_none))))))) (pss_nil))
    (pss_one (ps_expr (pe_bm PySem.F.plainAttrs_list PySem.F.slot_list_append PySem.F.type_list_append mt_append (pv 5) (pa_cons (pv 9) pa_nil)))))))
    (pss_cons (ps_set (i := 7) sclaw.nd rfl (by first | exact Or.inl rfl | exact Or.inr rfl) (pe_callTy cf_list (by rfl) T.n_list (by decide +kernel) (pa_cons (pv 5) (pa_nil))))
    (pss_cons (ps_set (i := 8) sclaw.nd rfl (by first | exact Or.inl rfl | exact Or.inr rfl) (pe_call G_freest (hr.mono (by decide)) (by rfl) T.g_freest T.F_freest.kp T.b_freest .nil pass0 (pa_cons (pv 5) (pa_nil))))
    (pss_cons (ps_if ((pw_or (pt_cmpR (opr_ne hr.units) (pv 8) (pe_callG G_l_freest gA (hr.mono (by decide)) (by rfl) T.g_l_freest T.F_l_freest.kp T.b_l_freest .nil pass0 (pa_cons (pv 7) (pa_nil))) (nomark _)) (pw_or (pt_cmpR (opr_ne hr.units) (pv 5) (pv 7) (nomark _)) (pw_or1 (pt_not (pt_val (pe_callB cr_isaB (by rfl) T.n_isinstance (by decide +kernel) (pa_cons (pv 8) (pa_cons (pe_bltn (v := .ty "list") (u := .type "list") (by rfl) T.n_list (by decide +kernel) rfl) pa_nil)))))))).pt) (pss_one (ps_ret (pe_bl))) (pss_nil))
    (pss_one (ps_for PassesOwn.never rfl (pi_range1 (by rfl) T.n_range (pa_cons (pe_int) (pa_nil))) (pg_name (i := 6) sclaw.nd rfl (by first | exact Or.inl rfl | exact Or.inr rfl))
    (pss_one (ps_if (pt_cmpR opr_gt (pe_callB cf_len (by rfl) T.n_len PySem.boot_len (pa_cons (pv 5) (pa_nil))) (pe_int) (nomark _)) (pss_cons (ps_set (i := 12) sclaw.nd rfl (by first | exact Or.inl rfl | exact Or.inr rfl) (pe_ix ix_seq (pv 5) (pe_call G_l_next (hr.mono (by decide)) (by rfl) T.g_l_next T.F_l_next.kp T.b_l_next .nil pass0 (pa_cons (pv 1) (pa_cons (pe_callB cf_len (by rfl) T.n_len PySem.boot_len (pa_cons (pv 5) (pa_nil))) (pa_nil)))) (fun _ _ => rfl)))
    (pss_cons (ps_set (i := 13) sclaw.nd rfl (by first | exact Or.inl rfl | exact Or.inr rfl) (pe_ix ix_seq (pv 5) (pe_call G_l_next (hr.mono (by decide)) (by rfl) T.g_l_next T.F_l_next.kp T.b_l_next .nil pass0 (pa_cons (pv 1) (pa_cons (pe_callB cf_len (by rfl) T.n_len PySem.boot_len (pa_cons (pv 5) (pa_nil))) (pa_nil)))) (fun _ _ => rfl)))
    (pss_cons (ps_set (i := 14) sclaw.nd rfl (by first | exact Or.inl rfl | exact Or.inr rfl) (pe_call G_l_freer (hr.mono (by decide)) (by rfl) T.g_l_freer T.F_l_freer.kp T.b_l_freer .nil pass0 (pa_cons (pv 12) (pa_cons (pv 13) (pa_nil)))))
    (pss_cons (ps_set (i := 15) sclaw.nd rfl (by first | exact Or.inl rfl | exact Or.inr rfl) (pe_call G_freer (hr.mono (by decide)) (by rfl) T.g_freer T.F_freer.kp T.b_freer .nil pass0 (pa_cons (pv 12) (pa_cons (pv 13) (pa_nil)))))
    (pss_one (ps_if ((pw_or (pt_not (pt_val (pe_callB cr_isaB (by rfl) T.n_isinstance (by decide +kernel) (pa_cons (pv 15) (pa_cons (pe_bltn (v := .ty "bool") (u := .type "bool") (by rfl) T.n_bool (by decide +kernel) rfl) pa_nil))))) (pw_or (pt_cmpR (opr_ne hr.units) (pv 15) (pv 14) (nomark _)) (pw_or1 (pt_not (pt_val (pe_call G_freer (hr.mono (by decide)) (by rfl) T.g_freer T.F_freer.kp T.b_freer .nil pass0 (pa_cons (pv 12) (pa_cons (pv 12) (pa_nil))))))))).pt) (pss_one (ps_ret (pe_bl))) (pss_nil))))))) (pss_nil)))))))))))))
    (pss_one (ps_ret (pe_bl))))
theorem oklaw (T : Txt K mg fA fD cA cC cP base) (TL : TxL w cC cP) : FnG P w K mg base CX0 5 (fA 12) (fD 12) ["script"] (spD (fun ds r => f_law_16 ds = some r) K) :=
  def_DG T.F_law sclaw (fun _ _ h => len_D h) (t := denS K E0 c_law_16) (fun cdv A outer s H E gA hr => (dnlaw K fA cA) ▸ htlaw T TL (okfreer T TL) (okl_freer T TL) (okl_next T TL) (okl_freest T TL) (okfreest T TL) (okl_entry T TL) (okl_stream T TL) cdv A outer s H E gA hr) (fun _ _ h => run_D (side_of (by rfl)) h)
end
end K29
namespace EV
open PySem PySem.Spec PyProof.Rows L2 DL
section
variable {β : Type} {kd : D → Option β}
def tupI (l : List Int) : D := .tuple (l.map .int)
theorem aI_int {ns : List Int} {i : Int} (h0 : 0 ≤ i) (h1 : i < ns.length) : aI (ns.map PyData.int) i kd = kd (.int (ns.getD i.toNat 0)) := by
  unfold aI
  rw [atI_ints h0 h1]; rfl
theorem nthD_map {α : Type} {f : α → D} {xs : List α} {i : Nat} (d : α) (h : i < xs.length) : nthD (xs.map f) i = f (xs.getD i d) := by
  unfold nthD
  simp [List.getD_eq_getElem?_getD, List.getElem?_map, List.getElem?_eq_getElem h]
theorem aI_map {α : Type} {f : α → D} {xs : List α} {i : Int} (d : α) (h0 : 0 ≤ i) (h1 : i < xs.length) : aI (xs.map f) i kd = kd (f (xs.getD i.toNat d)) := by
  rw [aI_in h0 (by rw [List.length_map]; exact h1), nthD_map d (by omega)]
theorem aI_str {ns : List Str} {i : Int} (h0 : 0 ≤ i) (h1 : i < ns.length) : aI (ns.map PyData.str) i kd = kd (.str (ns.getD i.toNat "")) := aI_map (f := PyData.str) ("" : Str) h0 h1
theorem aI_row {ns : List (List Int)} {i : Int} (h0 : 0 ≤ i) (h1 : i < ns.length) : aI (ns.map tupI) i kd = kd (tupI (ns.getD i.toNat [])) := aI_map [] h0 h1
theorem aI_i1 {a i : Int} (h0 : 0 ≤ i) (h1 : i < 1) : aI [.int a] i kd = kd (.int ([a].getD i.toNat 0)) := aI_int (ns := [a]) h0 (by simp only [List.length_cons, List.length_nil]; omega)
theorem aI_i2 {a b i : Int} (h0 : 0 ≤ i) (h1 : i < 2) : aI [.int a, .int b] i kd = kd (.int ([a, b].getD i.toNat 0)) := aI_int (ns := [a, b]) h0 (by simp only [List.length_cons, List.length_nil]; omega)
theorem aI_i3 {a b c i : Int} (h0 : 0 ≤ i) (h1 : i < 3) : aI [.int a, .int b, .int c] i kd = kd (.int ([a, b, c].getD i.toNat 0)) := aI_int (ns := [a, b, c]) h0 (by simp only [List.length_cons, List.length_nil]; omega)
theorem aI_i4 {a b c d i : Int} (h0 : 0 ≤ i) (h1 : i < 4) : aI [.int a, .int b, .int c, .int d] i kd = kd (.int ([a, b, c, d].getD i.toNat 0)) := aI_int (ns := [a, b, c, d]) h0 (by simp only [List.length_cons, List.length_nil]; omega)
theorem aI_i5 {a b c d e i : Int} (h0 : 0 ≤ i) (h1 : i < 5) : aI [.int a, .int b, .int c, .int d, .int e] i kd = kd (.int ([a, b, c, d, e].getD i.toNat 0)) := aI_int (ns := [a, b, c, d, e]) h0 (by simp only [List.length_cons, List.length_nil]; omega)
theorem aI_i6 {a b c d e f i : Int} (h0 : 0 ≤ i) (h1 : i < 6) : aI [.int a, .int b, .int c, .int d, .int e, .int f] i kd = kd (.int ([a, b, c, d, e, f].getD i.toNat 0)) := aI_int (ns := [a, b, c, d, e, f]) h0 (by simp only [List.length_cons, List.length_nil]; omega)
theorem aI_b2 {a b : D} {c : Bool} : aI [a, b] (if c = true then 1 else 0) kd = kd (if c = true then b else a) := by
  cases c
  · exact aI_0
  · exact aI_1
def sgn (z : Str) (j : Nat) : Str := ⟨#[z.cps.toList.getD j 0]⟩
theorem oZ_ixS {z : Str} {i : Int} {kz : Rz → Option β} (h0 : 0 ≤ i) (h1 : i < z.length) (hz : z.length ≤ sizeLine) : oZ .ix (.str z) (.int i) kz = kz (.d (.str (sgn z i.toNat))) := by
  show Option.bind (if _ then _ else none) _ = _
  rw [if_pos hz]
  have hl : z.cps.toList.length = z.length := by simp [Str.length]
  have : atI z.cps.toList i = some (z.cps.toList.getD i.toNat 0) := by
    unfold atI ixN
    rw [if_pos h0, if_pos (by rw [hl]; exact h1)]
    show z.cps.toList[i.toNat]? = _
    rw [List.getD_eq_getElem?_getD, List.getElem?_eq_getElem (by omega)]
    rfl
  rw [this]; rfl
theorem len_abyz : ("abyz" : Str).length = 4 := by decide
theorem len_az : ("abcdefghijklmnopqrstuvwxyz" : Str).length = 26 := by decide
theorem oZ_abyz {i : Int} {kz : Rz → Option β} (h0 : 0 ≤ i) (h1 : i < 4) : oZ .ix (.str "abyz") (.int i) kz = kz (.d (.str (sgn "abyz" i.toNat))) := oZ_ixS h0 (by rw [len_abyz]; exact h1) (by rw [len_abyz, sizeLine_eq]; omega)
theorem oZ_az {i : Int} {kz : Rz → Option β} (h0 : 0 ≤ i) (h1 : i < 26) : oZ .ix (.str "abcdefghijklmnopqrstuvwxyz") (.int i) kz = kz (.d (.str (sgn "abcdefghijklmnopqrstuvwxyz" i.toNat))) := oZ_ixS h0 (by rw [len_az]; exact h1) (by rw [len_az, sizeLine_eq]; omega)
theorem canLayInts : ∀ ns : List Int, PyData.canLayAll0 (ns.map PyData.int) = true
  | [] => rfl
  | _ :: ns => by simp [PyData.canLayAll0, PyData.canLay0, canLayInts ns]
theorem shT (l : List Int) : SeqAt.shaped (tupI l) = true := by
  unfold SeqAt.shaped tupI
  simp [PyData.canLay0, canLayInts, PyData.depth, depthInts]
theorem shTi (l : List Int) : SeqAt.shaped (.tuple (l.map .int)) = true := shT l
theorem eqvAllInts : ∀ a b : List Int, PyData.eqvAll (a.map .int) (b.map .int) = decide (a = b)
  | [], [] => rfl
  | [], _ :: _ => rfl
  | _ :: _, [] => rfl
  | x :: a, y :: b => by
    rw [List.map_cons, List.map_cons, PyData.eqvAll, eqvAllInts a b]
    show ((x == y) && decide (a = b)) = _
    by_cases h : x = y <;> by_cases h2 : a = b <;> simp [h, h2]
theorem eqvT (a b : List Int) : PyData.eqv (tupI a) (tupI b) = decide (a = b) := eqvAllInts a b
theorem inD_ints (x : Int) : ∀ E : List Int, inD (.int x) (E.map .int) = decide (x ∈ E)
  | [] => rfl
  | a :: E => by
    have := inD_ints x E
    unfold inD at this ⊢
    rw [List.map_cons, List.any_cons, this]
    show ((a == x) || _) = _
    by_cases h : a = x
    · subst h; simp
    · have h2 : ¬ x = a := fun z => h z.symm
      have h3 : (a == x) = false := beq_eq_false_iff_ne.mpr h
      simp [h2, h3]
end
theorem lc_map {α : Type} (enc F : α → D) {f : D → Rho → Option (Option D × Rho)} {ρ : Rho} {xs : List α} (h : ∀ x ∈ xs, f (enc x) ρ = some (some (F x), ρ)) : lcGo f (xs.map enc) ρ = some (xs.map F, ρ) := by
  induction xs with
  | nil => rfl
  | cons x xs ih =>
    show (f (enc x) ρ).bind _ = _
    rw [h x List.mem_cons_self]
    show (lcGo f (xs.map enc) ρ).bind _ = _
    rw [ih fun y m => h y (List.mem_cons_of_mem _ m)]
    rfl
theorem lc_mapf {α : Type} (enc F : α → D) (p : α → Bool) {f : D → Rho → Option (Option D × Rho)} {ρ : Rho} {xs : List α} (h : ∀ x ∈ xs, f (enc x) ρ = some (if p x then some (F x) else none, ρ)) : lcGo f (xs.map enc) ρ = some ((xs.filter p).map F, ρ) := by
  induction xs with
  | nil => rfl
  | cons x xs ih =>
    show (f (enc x) ρ).bind _ = _
    rw [h x List.mem_cons_self]
    show (lcGo f (xs.map enc) ρ).bind _ = _
    rw [ih fun y m => h y (List.mem_cons_of_mem _ m), List.filter_cons]
    cases p x <;> rfl
theorem cZ_lenP {β : Type} {l : List Int} {kz : Rz → Option β} : cZ .len [tupI l] kz = kz (.d (.int l.length)) := by unfold tupI; rw [cZ_lenTm]
theorem oZ_ixP {β : Type} {l : List Int} {i : Int} {kz : Rz → Option β} (h0 : 0 ≤ i) (h1 : i < l.length) : oZ .ix (tupI l) (.int i) kz = kz (.d (.int (l.getD i.toNat 0))) := by unfold tupI; rw [oZ_ixT, aI_int h0 h1]
theorem sD_P {β : Type} {l : List Int} {kl : List D → Option β} : sD (tupI l) kl = kl (l.map .int) := rfl
theorem cZ_lstP {β : Type} {l : List Int} {kz : Rz → Option β} : cZ .list [tupI l] kz = kz (.n (l.map .int)) := rfl
end EV
set_option autoImplicit false
namespace CS
open PySem PySem.Spec PyProof.Rows L2 DL EV
local macro_rules | `(tactic| walk_at "side") => `(tactic| first | omega | (simp only [List.length_cons, List.length_nil, List.length_map, List.length_append, List.length_range, PySem.sizeLine_eq]; omega) | assumption | (simp; done))
theorem next_eq {N : List Int} {k many : Int} (G : Good N) (h0 : 0 ≤ k) (h1 : k < KMax) (hm : 0 < many) : f_l_next (stAt N k) [.int many] = some (.dat (.int (nxt N k many)), stAt N (k + 1)) := by
  have hp := G.pos
  have hl := G.len
  have hd := good_div G (k := k + 1) (by omega) (by omega)
  have e1 : 0 ≤ (k + 1) % (N.length : Int) := Int.emod_nonneg _ (by omega)
  have e2 : (k + 1) % (N.length : Int) < N.length := Int.emod_lt_of_pos _ (by omega)
  have hK : KMax = 1000000000 := rfl
  rw [x_l_next]
  unfold stAt nxt
  simp (config := { implicitDefEqProofs := false }) (disch := walk_at "side") only [↓reduceIte, decide_eq_true_eq, decide_true, decide_false, Bool.not_true, Bool.not_false, Bool.false_eq_true, Int.reduceEq, Int.reduceLT, Int.reduceLE, Int.reduceNeg, Int.reduceToNat, ↓okI, ↓okI2, ↓aV_d, ↓aV_o, ↓aV_n, ↓aV_w, ↓dV_d, ↓dV_n, ↓dV_w, ↓gE_0, ↓gE_s, ↓eL_l, ↓eD_l, ↓eV_d, ↓eV_l, ↓nA_d, ↓nA_o, ↓iD_i, ↓bD_b, ↓kD_i, ↓kD_s, ↓zD_d, ↓vZ_d, ↓vZ_n, ↓sR_0, ↓sR_s, ↓sK_n, ↓sK_0, ↓lD_l, ↓sD_l, ↓sD_t, ↓tD_t, ↓dA_nil, ↓dA_d, ↓dN_nil, ↓dN_c, ↓oZ_addI, ↓oZ_addS, ↓oZ_addT, ↓oZ_addL, ↓oZ_sub, ↓oZ_mul, ↓oZ_mulT, ↓oZ_mulL, ↓oZ_fdiv, ↓oZ_mod, ↓oZ_pow, ↓oZ_eqI, ↓oZ_eqS, ↓oZ_neS, ↓oZ_neI, ↓oZ_lt, ↓oZ_le, ↓oZ_gt, ↓oZ_ge, ↓oZ_ixL, ↓oZ_ixT, ↓aI_0, ↓aI_1, ↓aI_2, ↓nI_0, ↓nI_1, ↓lS_0, ↓lS_s, ↓aI_int, ↓aI_str, ↓aI_row, ↓aI_b2, ↓aI_i1, ↓aI_i2, ↓aI_i3, ↓aI_i4, ↓aI_i5, ↓aI_i6, ↓oZ_abyz, ↓oZ_az, ↓cZ_lenLm, ↓cZ_lenTm, ↓cZ_lenP, ↓oZ_ixP, ↓sD_P, ↓cZ_lstP, ↓cZ_abs, ↓cZ_int, ↓cZ_intB, ↓cZ_tup, ↓cZ_lstL, ↓cZ_lstT, ↓cZ_all, ↓cZ_any, ↓cZ_max2, ↓cZ_min2, ↓cZ_sum, ↓cZ_sorted, ↓xE_int, ↓xE_bl, ↓xE_str, ↓xE_non, ↓xE_var, ↓xE_op, ↓xE_neg, ↓xE_nt, ↓xE_an, ↓xE_or, ↓xE_ch, ↓xE_isN, ↓xE_notN, ↓xE_ife, ↓xE_tup, ↓xE_lst, ↓xE_sl, ↓sl1_T, ↓sl1_L, ↓xE_cb, ↓xE_isa, ↓xE_call, ↓xE_callS, ↓xE_lc, ↓xE_lc2, ↓xE_callL, ↓rvA_d, ↓tw2_t, ↓sN_0, ↓sN_s, ↓xE_lrg, ↓xE_trg, ↓xE_pop, ↓xE_idxL, ↓sT_s, ↓xE_idxT, ↓xE_dget, ↓xE_din, ↓xE_dnin, ↓xE_dset, ↓xA_nil, ↓xA_cons, ↓xT_te, ↓xT_tb, ↓xT_nt, ↓xT_an, ↓xT_or, ↓xT_yes, ↓xT_lend, ↓xP_no, ↓xP_at, ↓xI_rng1, ↓xI_rng2, ↓xI_u, ↓xI_en, ↓xG_nm, ↓xG_tup, ↓xGs_nil, ↓xGs_cons, ↓sV_d, ↓sV_n, ↓sV_w, ↓rV_d, ↓rV_n, ↓rV_w, ↓rV_o, ↓xS_set, ↓xS_asg, ↓xS_seti, ↓xS_app, ↓xS_newD, ↓xS_dput, ↓xS_drop, ↓xS_ret, ↓xS_retN, ↓xS_iff, ↓xS_for, ↓xS_wh, ↓xS_brk, ↓xS_cont, ↓xS_nx, ↓xS_seq, ↓xS_fz, ↓fzK_l, ↓fzK_d, ↓fzK_n, ↓fzK_D, ↓kS_nx, ↓kS_rt, ↓kS_bk, ↓kS_ct, ↓out1_rt, ↓out2_rt, ↓u_c_l_next]
theorem stream1 {s c m : Ent} : ∀ (l : List D) (acc : List Int) (r : Int) (kk : Ent), acc.length + l.length ≤ 100000 → ∃ r' k', forGo (trn [] (.nm 4) b_l_stream_1) l [s, .own (.lst (acc.map .int)), c, .dat (.int r), kk, m] = some (.nx [s, .own (.lst ((acc ++ dig l.length r).map .int)), c, r', k', m])
  | [], acc, r, kk, _ => ⟨.dat (.int r), kk, by simp [forGo, dig]⟩
  | x :: l, acc, r, kk, h => by
    rw [List.length_cons] at h
    rw [forGo_x]
    simp (config := { implicitDefEqProofs := false }) (disch := walk_at "side") only [↓reduceIte, decide_eq_true_eq, decide_true, decide_false, Bool.not_true, Bool.not_false, Bool.false_eq_true, Int.reduceEq, Int.reduceLT, Int.reduceLE, Int.reduceNeg, Int.reduceToNat, ↓okI, ↓okI2, ↓aV_d, ↓aV_o, ↓aV_n, ↓aV_w, ↓dV_d, ↓dV_n, ↓dV_w, ↓gE_0, ↓gE_s, ↓eL_l, ↓eD_l, ↓eV_d, ↓eV_l, ↓nA_d, ↓nA_o, ↓iD_i, ↓bD_b, ↓kD_i, ↓kD_s, ↓zD_d, ↓vZ_d, ↓vZ_n, ↓sR_0, ↓sR_s, ↓sK_n, ↓sK_0, ↓lD_l, ↓sD_l, ↓sD_t, ↓tD_t, ↓dA_nil, ↓dA_d, ↓dN_nil, ↓dN_c, ↓oZ_addI, ↓oZ_addS, ↓oZ_addT, ↓oZ_addL, ↓oZ_sub, ↓oZ_mul, ↓oZ_mulT, ↓oZ_mulL, ↓oZ_fdiv, ↓oZ_mod, ↓oZ_pow, ↓oZ_eqI, ↓oZ_eqS, ↓oZ_neS, ↓oZ_neI, ↓oZ_lt, ↓oZ_le, ↓oZ_gt, ↓oZ_ge, ↓oZ_ixL, ↓oZ_ixT, ↓aI_0, ↓aI_1, ↓aI_2, ↓nI_0, ↓nI_1, ↓lS_0, ↓lS_s, ↓aI_int, ↓aI_str, ↓aI_row, ↓aI_b2, ↓aI_i1, ↓aI_i2, ↓aI_i3, ↓aI_i4, ↓aI_i5, ↓aI_i6, ↓oZ_abyz, ↓oZ_az, ↓cZ_lenLm, ↓cZ_lenTm, ↓cZ_lenP, ↓oZ_ixP, ↓sD_P, ↓cZ_lstP, ↓cZ_abs, ↓cZ_int, ↓cZ_intB, ↓cZ_tup, ↓cZ_lstL, ↓cZ_lstT, ↓cZ_all, ↓cZ_any, ↓cZ_max2, ↓cZ_min2, ↓cZ_sum, ↓cZ_sorted, ↓xE_int, ↓xE_bl, ↓xE_str, ↓xE_non, ↓xE_var, ↓xE_op, ↓xE_neg, ↓xE_nt, ↓xE_an, ↓xE_or, ↓xE_ch, ↓xE_isN, ↓xE_notN, ↓xE_ife, ↓xE_tup, ↓xE_lst, ↓xE_sl, ↓sl1_T, ↓sl1_L, ↓xE_cb, ↓xE_isa, ↓xE_call, ↓xE_callS, ↓xE_lc, ↓xE_lc2, ↓xE_callL, ↓rvA_d, ↓tw2_t, ↓sN_0, ↓sN_s, ↓xE_lrg, ↓xE_trg, ↓xE_pop, ↓xE_idxL, ↓sT_s, ↓xE_idxT, ↓xE_dget, ↓xE_din, ↓xE_dnin, ↓xE_dset, ↓xA_nil, ↓xA_cons, ↓xT_te, ↓xT_tb, ↓xT_nt, ↓xT_an, ↓xT_or, ↓xT_yes, ↓xT_lend, ↓xP_no, ↓xP_at, ↓xI_rng1, ↓xI_rng2, ↓xI_u, ↓xI_en, ↓xG_nm, ↓xG_tup, ↓xGs_nil, ↓xGs_cons, ↓sV_d, ↓sV_n, ↓sV_w, ↓rV_d, ↓rV_n, ↓rV_w, ↓rV_o, ↓xS_set, ↓xS_asg, ↓xS_seti, ↓xS_app, ↓xS_newD, ↓xS_dput, ↓xS_drop, ↓xS_ret, ↓xS_retN, ↓xS_iff, ↓xS_for, ↓xS_wh, ↓xS_brk, ↓xS_cont, ↓xS_nx, ↓xS_seq, ↓xS_fz, ↓fzK_l, ↓fzK_d, ↓fzK_n, ↓fzK_D, ↓kS_nx, ↓kS_rt, ↓kS_bk, ↓kS_ct, ↓out1_rt, ↓out2_rt, ↓u_b_l_stream_1, ↓aft_bk]
    by_cases q : r / 1009 = 0
    · refine ⟨.dat (.int (r / 1009)), .dat x, ?_⟩
      simp [q, dig]
    · obtain ⟨r', k', e⟩ := stream1 l (acc ++ [r % 1009]) (r / 1009) (.dat x) (by rw [List.length_append, List.length_singleton]; omega)
      refine ⟨r', k', ?_⟩
      simp [q, dig] at e ⊢
      exact e
theorem stream2 {s c r m : Ent} {acc : List Int} {m0 : Int} {kk : Ent} (hm : 0 ≤ m0 ∧ m0 < 2147483647) (h : acc.length ≤ 100000) : forGo (trn [] (.nm 4) b_l_stream_3) (rgD 0 10) [s, .own (.lst (acc.map .int)), c, r, kk, .dat (.int m0)] = some (.nx [s, .own (.lst ((acc ++ (List.range 10).map (mxo m0)).map .int)), c, r, .dat (.int 9), .dat (.int (mxm m0 10))]) := by
  have bm : ∀ i, 0 ≤ mxm m0 i ∧ mxm m0 i < 2147483647 := fun i => by
    cases i with
    | zero => exact hm
    | succ i => exact ⟨Int.emod_nonneg _ (by omega), Int.emod_lt_of_pos _ (by omega)⟩
  refine for_inv (fun i => [s, .own (.lst ((acc ++ (List.range i).map (mxo m0)).map .int)), c, r, if i = 0 then kk else .dat (.int ((i : Int) - 1)), .dat (.int (mxm m0 i))]) (by simp [mxm]) (by rw [rgD_len]; rfl) fun i hi => ?_
  rw [rgD_len] at hi
  rw [rgD_at hi, trn_x]
  have b := bm i
  have hz : ((acc ++ (List.range i).map (mxo m0)).map PyData.int).length < sizeLine := by simp [sizeLine_eq]; omega
  simp (config := { implicitDefEqProofs := false }) (disch := walk_at "side") only [↓reduceIte, decide_eq_true_eq, decide_true, decide_false, Bool.not_true, Bool.not_false, Bool.false_eq_true, Int.reduceEq, Int.reduceLT, Int.reduceLE, Int.reduceNeg, Int.reduceToNat, ↓okI, ↓okI2, ↓aV_d, ↓aV_o, ↓aV_n, ↓aV_w, ↓dV_d, ↓dV_n, ↓dV_w, ↓gE_0, ↓gE_s, ↓eL_l, ↓eD_l, ↓eV_d, ↓eV_l, ↓nA_d, ↓nA_o, ↓iD_i, ↓bD_b, ↓kD_i, ↓kD_s, ↓zD_d, ↓vZ_d, ↓vZ_n, ↓sR_0, ↓sR_s, ↓sK_n, ↓sK_0, ↓lD_l, ↓sD_l, ↓sD_t, ↓tD_t, ↓dA_nil, ↓dA_d, ↓dN_nil, ↓dN_c, ↓oZ_addI, ↓oZ_addS, ↓oZ_addT, ↓oZ_addL, ↓oZ_sub, ↓oZ_mul, ↓oZ_mulT, ↓oZ_mulL, ↓oZ_fdiv, ↓oZ_mod, ↓oZ_pow, ↓oZ_eqI, ↓oZ_eqS, ↓oZ_neS, ↓oZ_neI, ↓oZ_lt, ↓oZ_le, ↓oZ_gt, ↓oZ_ge, ↓oZ_ixL, ↓oZ_ixT, ↓aI_0, ↓aI_1, ↓aI_2, ↓nI_0, ↓nI_1, ↓lS_0, ↓lS_s, ↓aI_int, ↓aI_str, ↓aI_row, ↓aI_b2, ↓aI_i1, ↓aI_i2, ↓aI_i3, ↓aI_i4, ↓aI_i5, ↓aI_i6, ↓oZ_abyz, ↓oZ_az, ↓cZ_lenLm, ↓cZ_lenTm, ↓cZ_lenP, ↓oZ_ixP, ↓sD_P, ↓cZ_lstP, ↓cZ_abs, ↓cZ_int, ↓cZ_intB, ↓cZ_tup, ↓cZ_lstL, ↓cZ_lstT, ↓cZ_all, ↓cZ_any, ↓cZ_max2, ↓cZ_min2, ↓cZ_sum, ↓cZ_sorted, ↓xE_int, ↓xE_bl, ↓xE_str, ↓xE_non, ↓xE_var, ↓xE_op, ↓xE_neg, ↓xE_nt, ↓xE_an, ↓xE_or, ↓xE_ch, ↓xE_isN, ↓xE_notN, ↓xE_ife, ↓xE_tup, ↓xE_lst, ↓xE_sl, ↓sl1_T, ↓sl1_L, ↓xE_cb, ↓xE_isa, ↓xE_call, ↓xE_callS, ↓xE_lc, ↓xE_lc2, ↓xE_callL, ↓rvA_d, ↓tw2_t, ↓sN_0, ↓sN_s, ↓xE_lrg, ↓xE_trg, ↓xE_pop, ↓xE_idxL, ↓sT_s, ↓xE_idxT, ↓xE_dget, ↓xE_din, ↓xE_dnin, ↓xE_dset, ↓xA_nil, ↓xA_cons, ↓xT_te, ↓xT_tb, ↓xT_nt, ↓xT_an, ↓xT_or, ↓xT_yes, ↓xT_lend, ↓xP_no, ↓xP_at, ↓xI_rng1, ↓xI_rng2, ↓xI_u, ↓xI_en, ↓xG_nm, ↓xG_tup, ↓xGs_nil, ↓xGs_cons, ↓sV_d, ↓sV_n, ↓sV_w, ↓rV_d, ↓rV_n, ↓rV_w, ↓rV_o, ↓xS_set, ↓xS_asg, ↓xS_seti, ↓xS_app, ↓xS_newD, ↓xS_dput, ↓xS_drop, ↓xS_ret, ↓xS_retN, ↓xS_iff, ↓xS_for, ↓xS_wh, ↓xS_brk, ↓xS_cont, ↓xS_nx, ↓xS_seq, ↓xS_fz, ↓fzK_l, ↓fzK_d, ↓fzK_n, ↓fzK_D, ↓kS_nx, ↓kS_rt, ↓kS_bk, ↓kS_ct, ↓out1_rt, ↓out2_rt, ↓u_b_l_stream_3]
  simp only [List.range_succ, List.map_append, List.map_cons, List.map_nil, ← List.append_assoc, mxo, mxm, Nat.add_one_ne_zero, if_false, Int.natCast_add, Int.zero_add]
  simp
theorem stream3 {s : Ent} {acc : List Int} {cell : Int} {e2 e3 e4 e5 : Ent} (h : acc.length ≤ 60 * 63) : ∃ f3 f4 f5, trn [] (.nm 2) b_l_stream_5 (.int cell) [s, .own (.lst (acc.map .int)), e2, e3, e4, e5] = some (.nx [s, .own (.lst ((acc ++ chunk cell).map .int)), .dat (.int cell), f3, f4, f5]) := by
  rw [trn_x]
  have e : (if cell < 0 then -cell else cell) = cellAbs cell := rfl
  have hA : 0 ≤ cellAbs cell := by unfold cellAbs; split <;> omega
  by_cases q : (10 : Int) ^ 18 ≤ cellAbs cell
  · obtain ⟨r', k', e1⟩ := stream1 (s := s) (c := .dat (.int cell)) (m := e5) (rgD 0 60) acc (cellAbs cell) e4 (by rw [rgD_len]; omega)
    have e2 : forGo (trn [] (.nm 4) b_l_stream_1) (rgD 0 (60 : Int).toNat) [s, .own (.lst (acc.map .int)), .dat (.int cell), .dat (.int (if cell < 0 then -cell else cell)), e4, e5] = _ := e1
    have ch : chunk cell = dig 60 (cellAbs cell) := by unfold chunk; rw [if_pos q]
    refine ⟨r', k', e5, ?_⟩
    simp (config := { implicitDefEqProofs := false }) (disch := walk_at "side") only [↓reduceIte, decide_eq_true_eq, decide_true, decide_false, Bool.not_true, Bool.not_false, Bool.false_eq_true, Int.reduceEq, Int.reduceLT, Int.reduceLE, Int.reduceNeg, Int.reduceToNat, ↓okI, ↓okI2, ↓aV_d, ↓aV_o, ↓aV_n, ↓aV_w, ↓dV_d, ↓dV_n, ↓dV_w, ↓gE_0, ↓gE_s, ↓eL_l, ↓eD_l, ↓eV_d, ↓eV_l, ↓nA_d, ↓nA_o, ↓iD_i, ↓bD_b, ↓kD_i, ↓kD_s, ↓zD_d, ↓vZ_d, ↓vZ_n, ↓sR_0, ↓sR_s, ↓sK_n, ↓sK_0, ↓lD_l, ↓sD_l, ↓sD_t, ↓tD_t, ↓dA_nil, ↓dA_d, ↓dN_nil, ↓dN_c, ↓oZ_addI, ↓oZ_addS, ↓oZ_addT, ↓oZ_addL, ↓oZ_sub, ↓oZ_mul, ↓oZ_mulT, ↓oZ_mulL, ↓oZ_fdiv, ↓oZ_mod, ↓oZ_pow, ↓oZ_eqI, ↓oZ_eqS, ↓oZ_neS, ↓oZ_neI, ↓oZ_lt, ↓oZ_le, ↓oZ_gt, ↓oZ_ge, ↓oZ_ixL, ↓oZ_ixT, ↓aI_0, ↓aI_1, ↓aI_2, ↓nI_0, ↓nI_1, ↓lS_0, ↓lS_s, ↓aI_int, ↓aI_str, ↓aI_row, ↓aI_b2, ↓aI_i1, ↓aI_i2, ↓aI_i3, ↓aI_i4, ↓aI_i5, ↓aI_i6, ↓oZ_abyz, ↓oZ_az, ↓cZ_lenLm, ↓cZ_lenTm, ↓cZ_lenP, ↓oZ_ixP, ↓sD_P, ↓cZ_lstP, ↓cZ_abs, ↓cZ_int, ↓cZ_intB, ↓cZ_tup, ↓cZ_lstL, ↓cZ_lstT, ↓cZ_all, ↓cZ_any, ↓cZ_max2, ↓cZ_min2, ↓cZ_sum, ↓cZ_sorted, ↓xE_int, ↓xE_bl, ↓xE_str, ↓xE_non, ↓xE_var, ↓xE_op, ↓xE_neg, ↓xE_nt, ↓xE_an, ↓xE_or, ↓xE_ch, ↓xE_isN, ↓xE_notN, ↓xE_ife, ↓xE_tup, ↓xE_lst, ↓xE_sl, ↓sl1_T, ↓sl1_L, ↓xE_cb, ↓xE_isa, ↓xE_call, ↓xE_callS, ↓xE_lc, ↓xE_lc2, ↓xE_callL, ↓rvA_d, ↓tw2_t, ↓sN_0, ↓sN_s, ↓xE_lrg, ↓xE_trg, ↓xE_pop, ↓xE_idxL, ↓sT_s, ↓xE_idxT, ↓xE_dget, ↓xE_din, ↓xE_dnin, ↓xE_dset, ↓xA_nil, ↓xA_cons, ↓xT_te, ↓xT_tb, ↓xT_nt, ↓xT_an, ↓xT_or, ↓xT_yes, ↓xT_lend, ↓xP_no, ↓xP_at, ↓xI_rng1, ↓xI_rng2, ↓xI_u, ↓xI_en, ↓xG_nm, ↓xG_tup, ↓xGs_nil, ↓xGs_cons, ↓sV_d, ↓sV_n, ↓sV_w, ↓rV_d, ↓rV_n, ↓rV_w, ↓rV_o, ↓xS_set, ↓xS_asg, ↓xS_seti, ↓xS_app, ↓xS_newD, ↓xS_dput, ↓xS_drop, ↓xS_ret, ↓xS_retN, ↓xS_iff, ↓xS_for, ↓xS_wh, ↓xS_brk, ↓xS_cont, ↓xS_nx, ↓xS_seq, ↓xS_fz, ↓fzK_l, ↓fzK_d, ↓fzK_n, ↓fzK_D, ↓kS_nx, ↓kS_rt, ↓kS_bk, ↓kS_ct, ↓out1_rt, ↓out2_rt, ↓u_b_l_stream_5, ↓fK_s e2]
    simp only [e, show ((10 : Int) ^ (18 : Int).toNat) = 10 ^ 18 from rfl, q, if_true, ch, rgD_len]
  · have e1 := stream2 (s := s) (c := .dat (.int cell)) (r := .dat (.int (cellAbs cell))) (m := e5) (acc := acc) (m0 := cellAbs cell % 2147483647) (kk := e4) ⟨Int.emod_nonneg _ (by omega), Int.emod_lt_of_pos _ (by omega)⟩ (by omega)
    have e2 : forGo (trn [] (.nm 4) b_l_stream_3) (rgD 0 (10 : Int).toNat) [s, .own (.lst (acc.map .int)), .dat (.int cell), .dat (.int (if cell < 0 then -cell else cell)), e4, .dat (.int ((if cell < 0 then -cell else cell) % 2147483647))] = _ := e1
    have ch : chunk cell = (List.range 10).map (mxo (cellAbs cell % 2147483647)) := by unfold chunk; rw [if_neg q]
    refine ⟨.dat (.int (cellAbs cell)), .dat (.int 9), .dat (.int (mxm (cellAbs cell % 2147483647) 10)), ?_⟩
    simp (config := { implicitDefEqProofs := false }) (disch := walk_at "side") only [↓reduceIte, decide_eq_true_eq, decide_true, decide_false, Bool.not_true, Bool.not_false, Bool.false_eq_true, Int.reduceEq, Int.reduceLT, Int.reduceLE, Int.reduceNeg, Int.reduceToNat, ↓okI, ↓okI2, ↓aV_d, ↓aV_o, ↓aV_n, ↓aV_w, ↓dV_d, ↓dV_n, ↓dV_w, ↓gE_0, ↓gE_s, ↓eL_l, ↓eD_l, ↓eV_d, ↓eV_l, ↓nA_d, ↓nA_o, ↓iD_i, ↓bD_b, ↓kD_i, ↓kD_s, ↓zD_d, ↓vZ_d, ↓vZ_n, ↓sR_0, ↓sR_s, ↓sK_n, ↓sK_0, ↓lD_l, ↓sD_l, ↓sD_t, ↓tD_t, ↓dA_nil, ↓dA_d, ↓dN_nil, ↓dN_c, ↓oZ_addI, ↓oZ_addS, ↓oZ_addT, ↓oZ_addL, ↓oZ_sub, ↓oZ_mul, ↓oZ_mulT, ↓oZ_mulL, ↓oZ_fdiv, ↓oZ_mod, ↓oZ_pow, ↓oZ_eqI, ↓oZ_eqS, ↓oZ_neS, ↓oZ_neI, ↓oZ_lt, ↓oZ_le, ↓oZ_gt, ↓oZ_ge, ↓oZ_ixL, ↓oZ_ixT, ↓aI_0, ↓aI_1, ↓aI_2, ↓nI_0, ↓nI_1, ↓lS_0, ↓lS_s, ↓aI_int, ↓aI_str, ↓aI_row, ↓aI_b2, ↓aI_i1, ↓aI_i2, ↓aI_i3, ↓aI_i4, ↓aI_i5, ↓aI_i6, ↓oZ_abyz, ↓oZ_az, ↓cZ_lenLm, ↓cZ_lenTm, ↓cZ_lenP, ↓oZ_ixP, ↓sD_P, ↓cZ_lstP, ↓cZ_abs, ↓cZ_int, ↓cZ_intB, ↓cZ_tup, ↓cZ_lstL, ↓cZ_lstT, ↓cZ_all, ↓cZ_any, ↓cZ_max2, ↓cZ_min2, ↓cZ_sum, ↓cZ_sorted, ↓xE_int, ↓xE_bl, ↓xE_str, ↓xE_non, ↓xE_var, ↓xE_op, ↓xE_neg, ↓xE_nt, ↓xE_an, ↓xE_or, ↓xE_ch, ↓xE_isN, ↓xE_notN, ↓xE_ife, ↓xE_tup, ↓xE_lst, ↓xE_sl, ↓sl1_T, ↓sl1_L, ↓xE_cb, ↓xE_isa, ↓xE_call, ↓xE_callS, ↓xE_lc, ↓xE_lc2, ↓xE_callL, ↓rvA_d, ↓tw2_t, ↓sN_0, ↓sN_s, ↓xE_lrg, ↓xE_trg, ↓xE_pop, ↓xE_idxL, ↓sT_s, ↓xE_idxT, ↓xE_dget, ↓xE_din, ↓xE_dnin, ↓xE_dset, ↓xA_nil, ↓xA_cons, ↓xT_te, ↓xT_tb, ↓xT_nt, ↓xT_an, ↓xT_or, ↓xT_yes, ↓xT_lend, ↓xP_no, ↓xP_at, ↓xI_rng1, ↓xI_rng2, ↓xI_u, ↓xI_en, ↓xG_nm, ↓xG_tup, ↓xGs_nil, ↓xGs_cons, ↓sV_d, ↓sV_n, ↓sV_w, ↓rV_d, ↓rV_n, ↓rV_w, ↓rV_o, ↓xS_set, ↓xS_asg, ↓xS_seti, ↓xS_app, ↓xS_newD, ↓xS_dput, ↓xS_drop, ↓xS_ret, ↓xS_retN, ↓xS_iff, ↓xS_for, ↓xS_wh, ↓xS_brk, ↓xS_cont, ↓xS_nx, ↓xS_seq, ↓xS_fz, ↓fzK_l, ↓fzK_d, ↓fzK_n, ↓fzK_D, ↓kS_nx, ↓kS_rt, ↓kS_bk, ↓kS_ct, ↓out1_rt, ↓out2_rt, ↓u_b_l_stream_5, ↓fK_s e2]
    simp only [e, show ((10 : Int) ^ (18 : Int).toNat) = 10 ^ 18 from rfl, q, if_false, ch]
theorem for_ex {f : D → Rho → Option Out} (P : Nat → Rho → Prop) : ∀ (l : List D) (i0 : Nat) (ρ : Rho), P i0 ρ → (∀ i ρ1, i < l.length → P (i0 + i) ρ1 → ∃ ρ2, f (nthD l i) ρ1 = some (.nx ρ2) ∧ P (i0 + i + 1) ρ2) → ∃ ρ', forGo f l ρ = some (.nx ρ') ∧ P (i0 + l.length) ρ'
  | [], i0, ρ, h, _ => ⟨ρ, rfl, h⟩
  | x :: xs, i0, ρ, h, st => by
    obtain ⟨ρ2, h1, h2⟩ := st 0 ρ (by simp) h
    obtain ⟨ρ', h3, h4⟩ := for_ex P xs (i0 + 1) ρ2 h2 fun i ρ1 hi hp => by
      have := st (i + 1) ρ1 (by simpa using hi) (by rw [show i0 + (i + 1) = i0 + 1 + i by omega]; exact hp)
      rw [show i0 + (i + 1) + 1 = i0 + 1 + i + 1 by omega] at this
      exact this
    refine ⟨ρ', ?_, by rw [List.length_cons, show i0 + (xs.length + 1) = i0 + 1 + xs.length by omega]; exact h4⟩
    show (f x ρ).bind _ = _
    rw [show f x ρ = _ from h1]
    exact h3
theorem for_ex0 {f : D → Rho → Option Out} (P : Nat → Rho → Prop) {l : List D} {ρ : Rho} (h : P 0 ρ) (st : ∀ i ρ1, i < l.length → P i ρ1 → ∃ ρ2, f (nthD l i) ρ1 = some (.nx ρ2) ∧ P (i + 1) ρ2) : ∃ ρ', forGo f l ρ = some (.nx ρ') ∧ P l.length ρ' := by
  have := for_ex P l 0 ρ h fun i ρ1 hi hp => by
    rw [Nat.zero_add] at hp ⊢
    exact st i ρ1 hi hp
  rw [Nat.zero_add] at this
  exact this
theorem stream_eq {ns : List Int} (h : ns.length ≤ 63) : f_l_stream [.list (ns.map .int)] = some (.new (.lst ((streamOf ns).map .int))) := by
  have cut : cutD (ns.map PyData.int) none (some 63) = ns.map .int := cut_to (n := 63) (by simpa using h)
  obtain ⟨ρ', h1, f3, f4, f5, f2, rfl⟩ := for_ex0 (f := trn [] (.nm 2) b_l_stream_5) (fun i ρ => ∃ e2 e3 e4 e5, ρ = [.dat (.list (ns.map .int)), .own (.lst ((flat (ns.take i)).map .int)), e2, e3, e4, e5]) (l := ns.map .int) (ρ := [.dat (.list (ns.map .int)), .own (.lst []), .no, .no, .no, .no]) ⟨.no, .no, .no, .no, by simp [flat]⟩ (fun i ρ1 hi ⟨e2, e3, e4, e5, e⟩ => by
    rw [List.length_map] at hi
    subst e
    rw [nthD_ints hi]
    have hl := flat_len (ns.take i)
    rw [List.length_take] at hl
    obtain ⟨g3, g4, g5, e⟩ := stream3 (s := .dat (.list (ns.map .int))) (acc := flat (ns.take i)) (cell := ns.getD i 0) (e2 := e2) (e3 := e3) (e4 := e4) (e5 := e5) (by omega)
    exact ⟨_, e, .dat (.int (ns.getD i 0)), g3, g4, g5, by rw [flat_take hi]⟩)
  rw [List.length_map, List.take_length] at h1
  rw [x_l_stream]
  by_cases q : flat ns = []
  · rw [q] at h1
    simp (config := { implicitDefEqProofs := false }) (disch := walk_at "side") only [↓reduceIte, decide_eq_true_eq, decide_true, decide_false, Bool.not_true, Bool.not_false, Bool.false_eq_true, Int.reduceEq, Int.reduceLT, Int.reduceLE, Int.reduceNeg, Int.reduceToNat, ↓okI, ↓okI2, ↓aV_d, ↓aV_o, ↓aV_n, ↓aV_w, ↓dV_d, ↓dV_n, ↓dV_w, ↓gE_0, ↓gE_s, ↓eL_l, ↓eD_l, ↓eV_d, ↓eV_l, ↓nA_d, ↓nA_o, ↓iD_i, ↓bD_b, ↓kD_i, ↓kD_s, ↓zD_d, ↓vZ_d, ↓vZ_n, ↓sR_0, ↓sR_s, ↓sK_n, ↓sK_0, ↓lD_l, ↓sD_l, ↓sD_t, ↓tD_t, ↓dA_nil, ↓dA_d, ↓dN_nil, ↓dN_c, ↓oZ_addI, ↓oZ_addS, ↓oZ_addT, ↓oZ_addL, ↓oZ_sub, ↓oZ_mul, ↓oZ_mulT, ↓oZ_mulL, ↓oZ_fdiv, ↓oZ_mod, ↓oZ_pow, ↓oZ_eqI, ↓oZ_eqS, ↓oZ_neS, ↓oZ_neI, ↓oZ_lt, ↓oZ_le, ↓oZ_gt, ↓oZ_ge, ↓oZ_ixL, ↓oZ_ixT, ↓aI_0, ↓aI_1, ↓aI_2, ↓nI_0, ↓nI_1, ↓lS_0, ↓lS_s, ↓aI_int, ↓aI_str, ↓aI_row, ↓aI_b2, ↓aI_i1, ↓aI_i2, ↓aI_i3, ↓aI_i4, ↓aI_i5, ↓aI_i6, ↓oZ_abyz, ↓oZ_az, ↓cZ_lenLm, ↓cZ_lenTm, ↓cZ_lenP, ↓oZ_ixP, ↓sD_P, ↓cZ_lstP, ↓cZ_abs, ↓cZ_int, ↓cZ_intB, ↓cZ_tup, ↓cZ_lstL, ↓cZ_lstT, ↓cZ_all, ↓cZ_any, ↓cZ_max2, ↓cZ_min2, ↓cZ_sum, ↓cZ_sorted, ↓xE_int, ↓xE_bl, ↓xE_str, ↓xE_non, ↓xE_var, ↓xE_op, ↓xE_neg, ↓xE_nt, ↓xE_an, ↓xE_or, ↓xE_ch, ↓xE_isN, ↓xE_notN, ↓xE_ife, ↓xE_tup, ↓xE_lst, ↓xE_sl, ↓sl1_T, ↓sl1_L, ↓xE_cb, ↓xE_isa, ↓xE_call, ↓xE_callS, ↓xE_lc, ↓xE_lc2, ↓xE_callL, ↓rvA_d, ↓tw2_t, ↓sN_0, ↓sN_s, ↓xE_lrg, ↓xE_trg, ↓xE_pop, ↓xE_idxL, ↓sT_s, ↓xE_idxT, ↓xE_dget, ↓xE_din, ↓xE_dnin, ↓xE_dset, ↓xA_nil, ↓xA_cons, ↓xT_te, ↓xT_tb, ↓xT_nt, ↓xT_an, ↓xT_or, ↓xT_yes, ↓xT_lend, ↓xP_no, ↓xP_at, ↓xI_rng1, ↓xI_rng2, ↓xI_u, ↓xI_en, ↓xG_nm, ↓xG_tup, ↓xGs_nil, ↓xGs_cons, ↓sV_d, ↓sV_n, ↓sV_w, ↓rV_d, ↓rV_n, ↓rV_w, ↓rV_o, ↓xS_set, ↓xS_asg, ↓xS_seti, ↓xS_app, ↓xS_newD, ↓xS_dput, ↓xS_drop, ↓xS_ret, ↓xS_retN, ↓xS_iff, ↓xS_for, ↓xS_wh, ↓xS_brk, ↓xS_cont, ↓xS_nx, ↓xS_seq, ↓xS_fz, ↓fzK_l, ↓fzK_d, ↓fzK_n, ↓fzK_D, ↓kS_nx, ↓kS_rt, ↓kS_bk, ↓kS_ct, ↓out1_rt, ↓out2_rt, ↓u_c_l_stream, cut, ↓fK_s h1]
    simp [streamOf, q]
  · have hn : (flat ns).length ≠ 0 := fun z => q (List.length_eq_zero_iff.mp z)
    simp (config := { implicitDefEqProofs := false }) (disch := walk_at "side") only [↓reduceIte, decide_eq_true_eq, decide_true, decide_false, Bool.not_true, Bool.not_false, Bool.false_eq_true, Int.reduceEq, Int.reduceLT, Int.reduceLE, Int.reduceNeg, Int.reduceToNat, ↓okI, ↓okI2, ↓aV_d, ↓aV_o, ↓aV_n, ↓aV_w, ↓dV_d, ↓dV_n, ↓dV_w, ↓gE_0, ↓gE_s, ↓eL_l, ↓eD_l, ↓eV_d, ↓eV_l, ↓nA_d, ↓nA_o, ↓iD_i, ↓bD_b, ↓kD_i, ↓kD_s, ↓zD_d, ↓vZ_d, ↓vZ_n, ↓sR_0, ↓sR_s, ↓sK_n, ↓sK_0, ↓lD_l, ↓sD_l, ↓sD_t, ↓tD_t, ↓dA_nil, ↓dA_d, ↓dN_nil, ↓dN_c, ↓oZ_addI, ↓oZ_addS, ↓oZ_addT, ↓oZ_addL, ↓oZ_sub, ↓oZ_mul, ↓oZ_mulT, ↓oZ_mulL, ↓oZ_fdiv, ↓oZ_mod, ↓oZ_pow, ↓oZ_eqI, ↓oZ_eqS, ↓oZ_neS, ↓oZ_neI, ↓oZ_lt, ↓oZ_le, ↓oZ_gt, ↓oZ_ge, ↓oZ_ixL, ↓oZ_ixT, ↓aI_0, ↓aI_1, ↓aI_2, ↓nI_0, ↓nI_1, ↓lS_0, ↓lS_s, ↓aI_int, ↓aI_str, ↓aI_row, ↓aI_b2, ↓aI_i1, ↓aI_i2, ↓aI_i3, ↓aI_i4, ↓aI_i5, ↓aI_i6, ↓oZ_abyz, ↓oZ_az, ↓cZ_lenLm, ↓cZ_lenTm, ↓cZ_lenP, ↓oZ_ixP, ↓sD_P, ↓cZ_lstP, ↓cZ_abs, ↓cZ_int, ↓cZ_intB, ↓cZ_tup, ↓cZ_lstL, ↓cZ_lstT, ↓cZ_all, ↓cZ_any, ↓cZ_max2, ↓cZ_min2, ↓cZ_sum, ↓cZ_sorted, ↓xE_int, ↓xE_bl, ↓xE_str, ↓xE_non, ↓xE_var, ↓xE_op, ↓xE_neg, ↓xE_nt, ↓xE_an, ↓xE_or, ↓xE_ch, ↓xE_isN, ↓xE_notN, ↓xE_ife, ↓xE_tup, ↓xE_lst, ↓xE_sl, ↓sl1_T, ↓sl1_L, ↓xE_cb, ↓xE_isa, ↓xE_call, ↓xE_callS, ↓xE_lc, ↓xE_lc2, ↓xE_callL, ↓rvA_d, ↓tw2_t, ↓sN_0, ↓sN_s, ↓xE_lrg, ↓xE_trg, ↓xE_pop, ↓xE_idxL, ↓sT_s, ↓xE_idxT, ↓xE_dget, ↓xE_din, ↓xE_dnin, ↓xE_dset, ↓xA_nil, ↓xA_cons, ↓xT_te, ↓xT_tb, ↓xT_nt, ↓xT_an, ↓xT_or, ↓xT_yes, ↓xT_lend, ↓xP_no, ↓xP_at, ↓xI_rng1, ↓xI_rng2, ↓xI_u, ↓xI_en, ↓xG_nm, ↓xG_tup, ↓xGs_nil, ↓xGs_cons, ↓sV_d, ↓sV_n, ↓sV_w, ↓rV_d, ↓rV_n, ↓rV_w, ↓rV_o, ↓xS_set, ↓xS_asg, ↓xS_seti, ↓xS_app, ↓xS_newD, ↓xS_dput, ↓xS_drop, ↓xS_ret, ↓xS_retN, ↓xS_iff, ↓xS_for, ↓xS_wh, ↓xS_brk, ↓xS_cont, ↓xS_nx, ↓xS_seq, ↓xS_fz, ↓fzK_l, ↓fzK_d, ↓fzK_n, ↓fzK_D, ↓kS_nx, ↓kS_rt, ↓kS_bk, ↓kS_ct, ↓out1_rt, ↓out2_rt, ↓u_c_l_stream, cut, ↓fK_s h1]
    simp [streamOf, q]
end CS
namespace CS
open PySem PySem.Spec PyProof.Rows L2 DL EV
def okMap (n : Nat) (x : List Int) : Prop := x.length = n ∧ ∀ i ∈ x, 0 ≤ i ∧ i < (n : Nat)
theorem len_app (a b : Str) : (a ++ b).length = a.length + b.length := by
  show (a.cps ++ b.cps).size = a.cps.size + b.cps.size
  exact Array.size_append
open DL
open DL
open DL
end CS
namespace CS
open PySem PySem.Spec PyProof.Rows L2 DL EV
local macro_rules | `(tactic| walk_at "side") => `(tactic| first | omega | (simp only [List.length_cons, List.length_nil, List.length_map, List.length_append, List.length_range, PySem.sizeLine_eq]; omega) | assumption | (simp; done))
theorem nextK {β : Type} {N : List Int} {k many : Int} {kv : Vl → List D → Option β} (G : Good N) (h0 : 0 ≤ k) (h1 : k < KMax) (hm : 0 < many) : cKS f_l_next (stAt N k) [.int many] kv = kv (.d (.int (nxt N k many))) (stAt N (k + 1)) := cKS_s (next_eq G h0 h1 hm)
end CS
namespace CS
open PySem PySem.Spec PyProof.Rows L2 DL EV
local macro_rules | `(tactic| walk_at "side") => `(tactic| first | omega | (simp only [List.length_cons, List.length_nil, List.length_map, List.length_append, List.length_range, PySem.sizeLine_eq]; omega) | assumption | (simp; done))
end CS
namespace CS
open PySem PySem.Spec PyProof.Rows L2 DL EV
local macro_rules | `(tactic| walk_at "side") => `(tactic| first | omega | (simp only [List.length_cons, List.length_nil, List.length_map, List.length_append, List.length_range, PySem.sizeLine_eq]; omega) | assumption | (simp; done))
end CS
namespace CS
open PySem PySem.Spec PyProof.Rows L2 DL EV
local macro_rules | `(tactic| walk_at "side") => `(tactic| first | omega | (simp only [List.length_cons, List.length_nil, List.length_map, List.length_append, List.length_range, PySem.sizeLine_eq]; omega) | assumption | (simp; done))
theorem nodup_lt : ∀ (m : Nat) (l : List Nat), l.Nodup → (∀ x ∈ l, x < m) → l.length ≤ m
  | 0, l, _, h => by
    cases l with
    | nil => exact Nat.le_refl _
    | cons x l => exact absurd (h x List.mem_cons_self) (Nat.not_lt_zero _)
  | m + 1, l, nd, h => by
    have h1 := nodup_lt m (l.erase m) (nd.erase m) fun x hx => by
      have h2 := (nd.mem_erase_iff).mp hx
      have := h x h2.2
      omega
    have := List.length_erase (a := m) (l := l)
    split at this <;> omega
def enc4 : List Int → Nat
  | [] => 0
  | x :: l => x.toNat + 4 * enc4 l
theorem enc4_lt : ∀ {n : Nat} {l : List Int}, l.length = n → (∀ x ∈ l, 0 ≤ x ∧ x < 4) → enc4 l < 4 ^ n
  | _, [], e, _ => by subst e; simp [enc4]
  | _, x :: l, e, h => by
    subst e
    have h1 := enc4_lt (l := l) rfl fun y m => h y (List.mem_cons_of_mem _ m)
    have h2 := h x List.mem_cons_self
    have e : enc4 (x :: l) = x.toNat + 4 * enc4 l := rfl
    rw [e, List.length_cons, Nat.pow_succ]
    omega
theorem enc4_inj : ∀ {a b : List Int}, a.length = b.length → (∀ x ∈ a, 0 ≤ x ∧ x < 4) → (∀ x ∈ b, 0 ≤ x ∧ x < 4) → enc4 a = enc4 b → a = b
  | [], [], _, _, _, _ => rfl
  | [], _ :: _, e, _, _, _ => nomatch e
  | _ :: _, [], e, _, _, _ => nomatch e
  | x :: a, y :: b, e, h, h', q => by
    have h1 := h x List.mem_cons_self
    have h2 := h' y List.mem_cons_self
    have q' : x.toNat + 4 * enc4 a = y.toNat + 4 * enc4 b := q
    have h3 := enc4_inj (a := a) (b := b) (by simpa using e) (fun z m => h z (List.mem_cons_of_mem _ m)) (fun z m => h' z (List.mem_cons_of_mem _ m)) (by omega)
    rw [h3, show x = y by omega]
theorem nodup_map {α β : Type} {f : α → β} : ∀ {l : List α}, l.Nodup → (∀ x ∈ l, ∀ y ∈ l, f x = f y → x = y) → (l.map f).Nodup
  | [], _, _ => List.Pairwise.nil
  | x :: l, nd, h => by
    rw [List.nodup_cons] at nd
    rw [List.map_cons, List.nodup_cons]
    refine ⟨fun m => ?_, nodup_map nd.2 fun a ha b hb => h a (List.mem_cons_of_mem _ ha) b (List.mem_cons_of_mem _ hb)⟩
    obtain ⟨y, hy, e⟩ := List.mem_map.mp m
    have := h y (List.mem_cons_of_mem _ hy) x List.mem_cons_self e
    exact nd.1 (this ▸ hy)
theorem few {n : Nat} {E : List (List Int)} (hn : n ≤ 4) (ho : ∀ x ∈ E, okMap n x) (nd : E.Nodup) : E.length ≤ 256 := by
  have h4 : ∀ x ∈ E, ∀ i ∈ x, (0 : Int) ≤ i ∧ i < 4 := fun x m i mi => by
    have := (ho x m).2 i mi
    omega
  have h1 : (E.map enc4).Nodup := nodup_map nd fun x hx y hy e => enc4_inj ((ho x hx).1.trans (ho y hy).1.symm) (h4 x hx) (h4 y hy) e
  have h2 := nodup_lt (4 ^ n) (E.map enc4) h1 fun z m => by
    obtain ⟨x, hx, e⟩ := List.mem_map.mp m
    rw [← e]
    exact enc4_lt (ho x hx).1 (h4 x hx)
  rw [List.length_map] at h2
  have : 4 ^ n ≤ 4 ^ 4 := Nat.pow_le_pow_right (by omega) hn
  omega
end CS
namespace CS
open PySem PySem.Spec PyProof.Rows L2 DL EV
local macro_rules | `(tactic| walk_at "side") => `(tactic| first | omega | (simp only [List.length_cons, List.length_nil, List.length_map, List.length_append, List.length_range, PySem.sizeLine_eq]; omega) | assumption | (simp; done))
end CS
namespace CS
open PySem PySem.Spec PyProof.Rows L2 DL EV
local macro_rules | `(tactic| walk_at "side") => `(tactic| first | omega | (simp only [List.length_cons, List.length_nil, List.length_map, List.length_append, List.length_range, PySem.sizeLine_eq]; omega) | assumption | (simp; done))
theorem cut_take (ds : List D) {j : Int} (h : 0 ≤ j) : DL.cutD ds none (some j) = ds.take j.toNat := by
  unfold DL.cutD
  have e : j = ((j.toNat : Nat) : Int) := by omega
  rw [e, HT.sIx_none, HT.sIx_nat, Int.toNat_natCast, List.drop_zero, Nat.sub_zero]
  by_cases z : j.toNat ≤ ds.length
  · rw [Nat.min_eq_left z]
  · rw [Nat.min_eq_right (by omega), List.take_length, List.take_of_length_le (by omega)]
end CS
namespace CS
open PySem PySem.Spec PyProof.Rows L2 DL EV
local macro_rules | `(tactic| walk_at "side") => `(tactic| first | omega | (simp only [List.length_cons, List.length_nil, List.length_map, List.length_append, List.length_range, PySem.sizeLine_eq]; omega) | assumption | (simp; done))
end CS
namespace CS
open PySem PySem.Spec PyProof.Rows L2 DL EV
local macro_rules | `(tactic| walk_at "side") => `(tactic| first | omega | (simp only [List.length_cons, List.length_nil, List.length_map, List.length_append, List.length_range, PySem.sizeLine_eq]; omega) | assumption | (simp; done))
end CS
namespace CS
open PySem PySem.Spec PyProof.Rows L2 DL EV
local macro_rules | `(tactic| walk_at "side") => `(tactic| first | omega | (simp only [List.length_cons, List.length_nil, List.length_map, List.length_append, List.length_range, PySem.sizeLine_eq]; omega) | assumption | (simp; done))
def prodI (rows : List (List Int)) (a b : Int) : Int := (rows.getD a.toNat []).getD b.toNat 0
def fit (rows : List (List Int)) (x y : Int) : Bool := prodI rows x y == x && prodI rows y x == y
end CS
namespace CS
open PySem PySem.Spec PyProof.Rows L2 DL EV
local macro_rules | `(tactic| walk_at "side") => `(tactic| first | omega | (simp only [List.length_cons, List.length_nil, List.length_map, List.length_append, List.length_range, PySem.sizeLine_eq]; omega) | assumption | (simp; done))
abbrev Entry := Option (Int × Int)
def enE : Entry → D
  | none => .tuple []
  | some (v, u) => .tuple [.int v, .int u]
def standD (s : List Entry) : D := .tuple (s.map enE)
theorem cutE (s : List Entry) (j : Nat) : DL.cutD (s.map enE) none (some (j : Int)) = (s.take j).map enE := by
  rw [cut_take _ (by omega), Int.toNat_natCast, List.map_take]
end CS
namespace CS
open PySem PySem.Spec PyProof.Rows L2 DL EV
local macro_rules | `(tactic| walk_at "side") => `(tactic| first | omega | (simp only [List.length_cons, List.length_nil, List.length_map, List.length_append, List.length_range, PySem.sizeLine_eq]; omega) | assumption | (simp; done))
end CS
namespace CS
open PySem PySem.Spec PyProof.Rows L2 DL EV
local macro_rules | `(tactic| walk_at "side") => `(tactic| first | omega | (simp only [List.length_cons, List.length_nil, List.length_map, List.length_append, List.length_range, PySem.sizeLine_eq]; omega) | assumption | (simp; done))
theorem oZ_eqN {β : Type} {kz : Rz → Option β} : oZ .eq (.tuple []) (.tuple []) kz = kz (.d (.bool true)) := by
  exact oZ_eq (d := .tuple []) (e := .tuple []) (shTi []) (shTi [])
theorem oZ_eqP {β : Type} {v u : Int} {kz : Rz → Option β} : oZ .eq (.tuple [.int v, .int u]) (.tuple []) kz = kz (.d (.bool false)) := by
  exact oZ_eq (d := .tuple [.int v, .int u]) (e := .tuple []) (shTi [v, u]) (shTi [])
theorem aI_ent {β : Type} {s : List Entry} {i : Int} {kd : D → Option β} (h0 : 0 ≤ i) (h1 : i < s.length) : aI (s.map enE) i kd = kd (enE (s.getD i.toNat none)) := aI_map none h0 h1
end CS
namespace CS
open PySem PySem.Spec PyProof.Rows L2 DL EV
local macro_rules | `(tactic| walk_at "side") => `(tactic| first | omega | (simp only [List.length_cons, List.length_nil, List.length_map, List.length_append, List.length_range, PySem.sizeLine_eq]; omega) | assumption | (simp; done))
end CS
namespace CS
open PySem PySem.Spec PyProof.Rows L2 DL EV
local macro_rules | `(tactic| walk_at "side") => `(tactic| first | omega | (simp only [List.length_cons, List.length_nil, List.length_map, List.length_append, List.length_range, PySem.sizeLine_eq]; omega) | assumption | (simp; done))
end CS
namespace CS
open PySem PySem.Spec PyProof.Rows L2 DL EV
local macro_rules | `(tactic| walk_at "side") => `(tactic| first | omega | (simp only [List.length_cons, List.length_nil, List.length_map, List.length_append, List.length_range, PySem.sizeLine_eq]; omega) | assumption | (simp; done))
end CS
namespace CS
open PySem PySem.Spec PyProof.Rows L2 DL EV
local macro_rules | `(tactic| walk_at "side") => `(tactic| first | omega | (simp only [List.length_cons, List.length_nil, List.length_map, List.length_append, List.length_range, PySem.sizeLine_eq]; omega) | assumption | (simp; done))
end CS
namespace CS
open PySem PySem.Spec PyProof.Rows L2 DL EV
local macro_rules | `(tactic| walk_at "side") => `(tactic| first | omega | (simp only [List.length_cons, List.length_nil, List.length_map, List.length_append, List.length_range, PySem.sizeLine_eq]; omega) | assumption | (simp; done))
theorem join_le {M : Nat} : ∀ ts : List Str, (∀ t ∈ ts, t.length ≤ M) → (Str.join ", " ts).length ≤ ts.length * (M + 2)
  | [], _ => by
    have : (Str.join ", " ([] : List Str)).length = 0 := rfl
    omega
  | x :: ts, h => by
    have e := join_length_add (x :: ts) (by simp)
    have b : ∀ ts : List Str, (∀ t ∈ ts, t.length ≤ M) → piled ts ≤ ts.length * (M + 2) := fun ts => by
      induction ts with
      | nil => intro _; simp [piled]
      | cons y ts ih =>
        intro h
        have h1 := h y List.mem_cons_self
        have h2 := ih fun t m => h t (List.mem_cons_of_mem _ m)
        rw [piled_cons, List.length_cons, Nat.add_mul]
        omega
    have := b _ h
    omega
theorem shownAll_mem {M : Nat} : ∀ xs : List D, (∀ x ∈ xs, x.shown.length ≤ M) → ∀ t ∈ PyData.shownAll xs, t.length ≤ M
  | [], _, t, m => by simp [PyData.shownAll] at m
  | x :: xs, h, t, m => by
    rw [PyData.shownAll_cons] at m
    rcases List.mem_cons.mp m with m | m
    · rw [m]; exact h x List.mem_cons_self
    · exact shownAll_mem xs (fun y my => h y (List.mem_cons_of_mem _ my)) t m
theorem strLen_app (a b : Str) : (a ++ b).length = a.length + b.length := len_app a b
theorem shown_tuple_le {M : Nat} {xs : List D} (h : ∀ x ∈ xs, x.shown.length ≤ M) : (PyData.tuple xs).shown.length ≤ xs.length * (M + 2) + 3 := by
  have := join_le (PyData.shownAll xs) (shownAll_mem xs h)
  rw [PyData.shownAll_length] at this
  rw [PyData.shown_tuple, strLen_app, strLen_app]
  have e1 : ("(" : Str).length = 1 := rfl
  have e2 : ((if xs.length == 1 then ",)" else ")" : String) : Str).length ≤ 2 := by
    split
    · decide
    · decide
  omega
structure Rp (d : D) (m k : Nat) : Prop where
  sh : d.showable = true
  hd : d.hasDict = false
  dp : d.depth ≤ k
  ln : d.shown.length ≤ m
theorem showAll : ∀ {xs : List D}, (∀ x ∈ xs, x.showable = true) → PyData.showableAll xs = true
  | [], _ => rfl
  | x :: xs, h => by rw [PyData.showableAll, h x List.mem_cons_self, showAll fun y m => h y (List.mem_cons_of_mem _ m)]; rfl
theorem hasAll : ∀ {xs : List D}, (∀ x ∈ xs, x.hasDict = false) → PyData.hasDictAll xs = false
  | [], _ => rfl
  | x :: xs, h => by rw [PyData.hasDictAll, h x List.mem_cons_self, hasAll fun y m => h y (List.mem_cons_of_mem _ m)]; rfl
theorem depAll {k : Nat} : ∀ {xs : List D}, (∀ x ∈ xs, x.depth ≤ k) → PyData.depthAll xs ≤ k
  | [], _ => by simp [PyData.depthAll]
  | x :: xs, h => by
    have h1 := h x List.mem_cons_self
    have h2 := depAll fun y m => h y (List.mem_cons_of_mem _ m)
    rw [PyData.depthAll]
    omega
theorem Rp.tup {xs : List D} {n m k : Nat} (h : ∀ x ∈ xs, Rp x m k) (hn : xs.length ≤ n) : Rp (.tuple xs) (n * (m + 2) + 3) (k + 1) := by
  refine ⟨showAll fun x m => (h x m).sh, hasAll fun x m => (h x m).hd, ?_, ?_⟩
  · have := depAll fun x m => (h x m).dp
    show PyData.depthAll xs + 1 ≤ k + 1
    omega
  · have := shown_tuple_le fun x m => (h x m).ln
    have := Nat.mul_le_mul_right (m + 2) hn
    omega
theorem Rp.mono {d : D} {m m' k k' : Nat} (h : Rp d m k) (hm : m ≤ m') (hk : k ≤ k') : Rp d m' k' := ⟨h.sh, h.hd, Nat.le_trans h.dp hk, Nat.le_trans h.ln hm⟩
end CS
namespace CS
open PySem PySem.Spec PyProof.Rows L2 DL EV
local macro_rules | `(tactic| walk_at "side") => `(tactic| first | omega | (simp only [List.length_cons, List.length_nil, List.length_map, List.length_append, List.length_range, PySem.sizeLine_eq]; omega) | assumption | (simp; done))
end CS
namespace CS
open PySem PySem.Spec PyProof.Rows L2 DL EV
local macro_rules | `(tactic| walk_at "side") => `(tactic| first | omega | (simp only [List.length_cons, List.length_nil, List.length_map, List.length_append, List.length_range, PySem.sizeLine_eq]; omega) | assumption | (simp; done))
theorem canLayEnt : ∀ s : List Entry, PyData.canLayAll0 (s.map enE) = true
  | [] => rfl
  | none :: s => by
    rw [List.map_cons, PyData.canLayAll0, canLayEnt s]; rfl
  | some (v, u) :: s => by
    rw [List.map_cons, PyData.canLayAll0, canLayEnt s]; rfl
theorem depthEnt : ∀ s : List Entry, PyData.depthAll (s.map enE) ≤ 1
  | [] => by simp [PyData.depthAll]
  | none :: s => by
    have := depthEnt s
    rw [List.map_cons, PyData.depthAll]
    have e : PyData.depth (enE none) = 1 := rfl
    omega
  | some (v, u) :: s => by
    have := depthEnt s
    rw [List.map_cons, PyData.depthAll]
    have e : PyData.depth (enE (some (v, u))) = 1 := rfl
    omega
theorem shStand (s : List Entry) : SeqAt.shaped (standD s) = true := by
  unfold SeqAt.shaped standD
  have := depthEnt s
  simp [PyData.canLay0, canLayEnt, PyData.depth]
  omega
theorem eqvEnt : ∀ s : List Entry, PyData.eqvAll (s.map enE) (s.map enE) = true
  | [] => rfl
  | none :: s => by
    rw [List.map_cons, PyData.eqvAll, eqvEnt s]; rfl
  | some (v, u) :: s => by
    rw [List.map_cons, PyData.eqvAll, eqvEnt s]
    have : PyData.eqv (enE (some (v, u))) (enE (some (v, u))) = true := (eqvT [v, u] [v, u]).trans (decide_eq_true rfl)
    rw [this]; rfl
theorem eqvStand (s : List Entry) : PyData.eqv (standD s) (standD s) = true := eqvEnt s
theorem shStands (E : List (List Entry)) : SeqAt.shaped (.list (E.map standD)) = true := by
  have h1 : ∀ E : List (List Entry), PyData.canLayAll0 (E.map standD) = true := fun E => by
    induction E with
    | nil => rfl
    | cons s E ih =>
      rw [List.map_cons, PyData.canLayAll0, ih]
      unfold standD
      simp [PyData.canLay0, canLayEnt]
  have h2 : ∀ E : List (List Entry), PyData.depthAll (E.map standD) ≤ 2 := fun E => by
    induction E with
    | nil => simp [PyData.depthAll]
    | cons s E ih =>
      have := depthEnt s
      rw [List.map_cons, PyData.depthAll]
      have e : PyData.depth (standD s) = PyData.depthAll (s.map enE) + 1 := rfl
      omega
  have := h2 E
  unfold SeqAt.shaped
  simp [PyData.canLay0, h1, PyData.depth]
  omega
theorem oZ_neStands {β : Type} {E : List (List Entry)} {kz : Rz → Option β} : oZ .ne (.list (E.map standD)) (.list (E.map standD)) kz = kz (.d (.bool false)) := by
  have h : ∀ E : List (List Entry), PyData.eqvAll (E.map standD) (E.map standD) = true := fun E => by
    induction E with
    | nil => rfl
    | cons s E ih => rw [List.map_cons, PyData.eqvAll, ih, eqvStand]; rfl
  rw [oZ_ne (shStands E) (shStands E)]
  have : PyData.eqv (.list (E.map standD)) (.list (E.map standD)) = true := h E
  rw [this]; rfl
end CS
namespace CS
open PySem PySem.Spec PyProof.Rows L2 DL EV
local macro_rules | `(tactic| walk_at "side") => `(tactic| first | omega | (simp only [List.length_cons, List.length_nil, List.length_map, List.length_append, List.length_range, PySem.sizeLine_eq]; omega) | assumption | (simp; done))
theorem for_allO {α : Type} {f : D → Rho → Option Out} (enc : α → D) (P : Rho → Prop) (p : α → Bool) {r : RetV} : ∀ {l : List α} {ρ : Rho}, P ρ → (∀ x ∈ l, ∀ ρ, P ρ → ∃ ρ', P ρ' ∧ f (enc x) ρ = some (if p x then .nx ρ' else .rt ρ' r)) →
    ∃ ρ', P ρ' ∧ forGo f (l.map enc) ρ = some (if l.all p then .nx ρ' else .rt ρ' r)
  | [], ρ, h0, _ => ⟨ρ, h0, rfl⟩
  | x :: l, ρ, h0, h => by
    obtain ⟨ρ1, h1, t⟩ := h x List.mem_cons_self ρ h0
    cases q : p x with
    | true =>
      rw [q] at t
      obtain ⟨ρ', h2, k⟩ := for_allO enc P p (l := l) h1 fun y m => h y (List.mem_cons_of_mem _ m)
      refine ⟨ρ', h2, ?_⟩
      show (f (enc x) ρ).bind _ = _
      rw [t, List.all_cons, q]
      exact k
    | false =>
      rw [q] at t
      refine ⟨ρ1, h1, ?_⟩
      show (f (enc x) ρ).bind _ = _
      rw [t, List.all_cons, q]
      rfl
theorem eqvE (a b : Entry) : PyData.eqv (enE a) (enE b) = decide (a = b) := by
  cases a with
  | none =>
    cases b with
    | none => exact (eqvT [] []).trans (by simp)
    | some q => exact (eqvT [] [q.1, q.2]).trans (by simp)
  | some p =>
    cases b with
    | none => exact (eqvT [p.1, p.2] []).trans (by simp)
    | some q =>
      refine (eqvT [p.1, p.2] [q.1, q.2]).trans ?_
      simp [Prod.ext_iff]
theorem eqvEs : ∀ (s t : List Entry), PyData.eqvAll (s.map enE) (t.map enE) = decide (s = t)
  | [], [] => rfl
  | [], _ :: _ => rfl
  | _ :: _, [] => rfl
  | a :: s, b :: t => by
    rw [List.map_cons, List.map_cons, PyData.eqvAll, eqvE, eqvEs s t]
    by_cases h : a = b <;> by_cases h2 : s = t <;> simp [h, h2]
theorem eqvS (s t : List Entry) : PyData.eqv (standD s) (standD t) = decide (s = t) := eqvEs s t
theorem inD_E (a : Entry) : ∀ E : List Entry, inD (enE a) (E.map enE) = decide (a ∈ E)
  | [] => rfl
  | b :: E => by
    show (PyData.eqv _ _ || inD _ _) = _
    rw [eqvE, inD_E a E]
    by_cases h : b = a
    · rw [h]; simp
    · have h' : ¬ a = b := fun z => h z.symm
      by_cases h2 : a ∈ E <;> simp [h, h', h2]
theorem shE (a : Entry) : SeqAt.shaped (enE a) = true := by
  cases a with
  | none => exact shTi []
  | some p => exact shTi [p.1, p.2]
theorem shEs (E : List Entry) : SeqAt.shaped (.list (E.map enE)) = true := by
  have h := depthEnt E
  unfold SeqAt.shaped
  simp [PyData.canLay0, canLayEnt, PyData.depth]
  omega
def frE : Entry → List Entry
  | none => [none]
  | some (v, u) => if u = -1 then [none, some (v, u)] else [none, some (v, -1), some (v, u)]
theorem frE_s (v u : Int) : frE (some (v, u)) = if u = -1 then [none, some (v, u)] else [none, some (v, -1), some (v, u)] := rfl
theorem freer_entries_eq (e : Entry) : f_freer_entries [enE e] = some (.new (.lst ((frE e).map enE))) := by
  rw [x_freer_entries]
  cases e with
  | none =>
    simp (config := { implicitDefEqProofs := false }) (disch := walk_at "side") only [↓reduceIte, decide_eq_true_eq, decide_true, decide_false, Bool.not_true, Bool.not_false, Bool.false_eq_true, Int.reduceEq, Int.reduceLT, Int.reduceLE, Int.reduceNeg, Int.reduceToNat, ↓okI, ↓okI2, ↓aV_d, ↓aV_o, ↓aV_n, ↓aV_w, ↓dV_d, ↓dV_wD, ↓aV_wD, ↓dO_d, ↓kV_w, ↓xE_dinD, ↓xE_dninD, ↓xE_dgetD, ↓xE_fnv, ↓xE_callF, ↓xE_callE, ↓xE_isaT, ↓xE_dspb, ↓xI_ukd, ↓xS_retD, ↓xS_fzD, ↓fzKD_D, ↓fzKD_d, ↓dV_n, ↓dV_w, ↓gE_0, ↓gE_s, ↓eL_l, ↓eD_l, ↓eV_d, ↓eV_l, ↓nA_d, ↓nA_o, ↓iD_i, ↓bD_b, ↓kD_i, ↓kD_s, ↓zD_d, ↓vZ_d, ↓vZ_n, ↓sR_0, ↓sR_s, ↓sK_n, ↓sK_0, ↓lD_l, ↓sD_l, ↓sD_t, ↓tD_t, ↓dA_nil, ↓dA_d, ↓dN_nil, ↓dN_c, ↓oZ_addI, ↓oZ_addS, ↓oZ_addT, ↓oZ_addL, ↓oZ_sub, ↓oZ_mul, ↓oZ_mulT, ↓oZ_mulL, ↓oZ_fdiv, ↓oZ_mod, ↓oZ_pow, ↓oZ_eqI, ↓oZ_eqS, ↓oZ_neS, ↓oZ_neI, ↓oZ_lt, ↓oZ_le, ↓oZ_gt, ↓oZ_ge, ↓oZ_ixL, ↓oZ_ixT, ↓aI_0, ↓aI_1, ↓aI_2, ↓nI_0, ↓nI_1, ↓lS_0, ↓lS_s, ↓aI_int, ↓aI_str, ↓aI_row, ↓aI_b2, ↓aI_i1, ↓aI_i2, ↓aI_i3, ↓aI_i4, ↓aI_i5, ↓aI_i6, ↓oZ_abyz, ↓oZ_az, ↓cZ_lenLm, ↓cZ_lenTm, ↓cZ_lenP, ↓oZ_ixP, ↓sD_P, ↓cZ_lstP, ↓cZ_abs, ↓cZ_int, ↓cZ_intB, ↓cZ_tup, ↓cZ_lstL, ↓cZ_lstT, ↓cZ_all, ↓cZ_any, ↓cZ_max2, ↓cZ_min2, ↓cZ_sum, ↓cZ_sorted, ↓xE_int, ↓xE_bl, ↓xE_str, ↓xE_non, ↓xE_var, ↓xE_op, ↓xE_neg, ↓xE_nt, ↓xE_an, ↓xE_or, ↓xE_ch, ↓xE_isN, ↓xE_notN, ↓xE_ife, ↓xE_tup, ↓xE_lst, ↓xE_sl, ↓sl1_T, ↓sl1_L, ↓xE_cb, ↓xE_isa, ↓xE_call, ↓xE_callX, ↓xE_lget, ↓xE_srs, xE_revT, ↓xE_revL, ↓xE_sw, ↓s2D_s, ↓xB_sif, ↓xE_dget2, ↓xT_tl, ↓xI_ky, ↓xS_lk0, ↓xR_x, ↓xR_call, ↓xR_lst, ↓xR_e, ↓xB_ret, ↓xB_iff, ↓xS_tryK, ↓xS_never, ↓xS_mv0, ↓xS_aug, ↓eF_l, noF_nil, noF_dat, noF_no, noF_lst, noF_dK, ↓sK_j, ↓xE_callS, ↓xE_lc, ↓xE_lc2, ↓xE_callL, ↓rvA_d, ↓tw2_t, ↓sN_0, ↓sN_s, ↓xE_lrg, ↓xE_trg, ↓xE_pop, ↓xE_idxL, ↓sT_s, ↓xE_idxT, ↓xE_dget, ↓xE_din, ↓xE_dnin, ↓xE_dset, ↓xE_dspV, ↓xE_dspC, ↓xE_dspM, ↓tE_d, ↓xI_rng3, ↓xA_nil, ↓xA_cons, ↓xT_te, ↓xT_tb, ↓xT_nt, ↓xT_an, ↓xT_or, ↓xT_yes, ↓xT_lend, ↓xP_no, ↓xP_at, ↓xI_rng1, ↓xI_rng2, ↓xI_u, ↓xI_en, ↓xI_enl, ↓xG_nm, ↓xG_tup, ↓xGs_nil, ↓xGs_cons, ↓sV_d, ↓sV_n, ↓sV_w, ↓rV_d, ↓rV_n, ↓rV_w, ↓rV_o, ↓xS_set, ↓xS_asg, ↓xS_seti, ↓xS_app, ↓xS_newD, ↓xS_dput, ↓xS_drop, ↓xS_dropX, ↓xS_raise, ↓xS_tryC, ↓xS_ret, ↓xS_retN, ↓xS_iff, ↓xS_for, ↓xS_wh, ↓xS_brk, ↓xS_cont, ↓xS_nx, ↓xS_seq, ↓xS_fz, ↓fzK_l, ↓fzK_d, ↓fzK_n, ↓fzK_D, ↓kS_nx, ↓kS_rt, ↓kS_bk, ↓kS_ct, ↓out1_rt, ↓out2_rt, ↓xE_allIn, ↓xE_inC, ↓xE_isB, ↓strD_s, ↓xE_callT, ↓xE_callLam, ↓xE_xin, ↓xE_xget, ↓xE_xdc, ↓xE_xd1, ↓xE_srK, ↓xE_hasX, ↓xS_newX, ↓xS_xput, ↓eT_l, noF_dT, ↓lamV_d
, ↓xE_anyNe, ↓xI_zp, ↓zpD_t, ↓xS_asgXn, ↓xS_asgXt, ↓yV_d, ↓u_c_freer_entries, enE, ↓oZ_eqN]
    rfl
  | some p =>
    obtain ⟨v, u⟩ := p
    by_cases h : u = -1
    · subst h
      simp (config := { implicitDefEqProofs := false }) (disch := walk_at "side") only [↓reduceIte, decide_eq_true_eq, decide_true, decide_false, Bool.not_true, Bool.not_false, Bool.false_eq_true, Int.reduceEq, Int.reduceLT, Int.reduceLE, Int.reduceNeg, Int.reduceToNat, ↓okI, ↓okI2, ↓aV_d, ↓aV_o, ↓aV_n, ↓aV_w, ↓dV_d, ↓dV_wD, ↓aV_wD, ↓dO_d, ↓kV_w, ↓xE_dinD, ↓xE_dninD, ↓xE_dgetD, ↓xE_fnv, ↓xE_callF, ↓xE_callE, ↓xE_isaT, ↓xE_dspb, ↓xI_ukd, ↓xS_retD, ↓xS_fzD, ↓fzKD_D, ↓fzKD_d, ↓dV_n, ↓dV_w, ↓gE_0, ↓gE_s, ↓eL_l, ↓eD_l, ↓eV_d, ↓eV_l, ↓nA_d, ↓nA_o, ↓iD_i, ↓bD_b, ↓kD_i, ↓kD_s, ↓zD_d, ↓vZ_d, ↓vZ_n, ↓sR_0, ↓sR_s, ↓sK_n, ↓sK_0, ↓lD_l, ↓sD_l, ↓sD_t, ↓tD_t, ↓dA_nil, ↓dA_d, ↓dN_nil, ↓dN_c, ↓oZ_addI, ↓oZ_addS, ↓oZ_addT, ↓oZ_addL, ↓oZ_sub, ↓oZ_mul, ↓oZ_mulT, ↓oZ_mulL, ↓oZ_fdiv, ↓oZ_mod, ↓oZ_pow, ↓oZ_eqI, ↓oZ_eqS, ↓oZ_neS, ↓oZ_neI, ↓oZ_lt, ↓oZ_le, ↓oZ_gt, ↓oZ_ge, ↓oZ_ixL, ↓oZ_ixT, ↓aI_0, ↓aI_1, ↓aI_2, ↓nI_0, ↓nI_1, ↓lS_0, ↓lS_s, ↓aI_int, ↓aI_str, ↓aI_row, ↓aI_b2, ↓aI_i1, ↓aI_i2, ↓aI_i3, ↓aI_i4, ↓aI_i5, ↓aI_i6, ↓oZ_abyz, ↓oZ_az, ↓cZ_lenLm, ↓cZ_lenTm, ↓cZ_lenP, ↓oZ_ixP, ↓sD_P, ↓cZ_lstP, ↓cZ_abs, ↓cZ_int, ↓cZ_intB, ↓cZ_tup, ↓cZ_lstL, ↓cZ_lstT, ↓cZ_all, ↓cZ_any, ↓cZ_max2, ↓cZ_min2, ↓cZ_sum, ↓cZ_sorted, ↓xE_int, ↓xE_bl, ↓xE_str, ↓xE_non, ↓xE_var, ↓xE_op, ↓xE_neg, ↓xE_nt, ↓xE_an, ↓xE_or, ↓xE_ch, ↓xE_isN, ↓xE_notN, ↓xE_ife, ↓xE_tup, ↓xE_lst, ↓xE_sl, ↓sl1_T, ↓sl1_L, ↓xE_cb, ↓xE_isa, ↓xE_call, ↓xE_callX, ↓xE_lget, ↓xE_srs, xE_revT, ↓xE_revL, ↓xE_sw, ↓s2D_s, ↓xB_sif, ↓xE_dget2, ↓xT_tl, ↓xI_ky, ↓xS_lk0, ↓xR_x, ↓xR_call, ↓xR_lst, ↓xR_e, ↓xB_ret, ↓xB_iff, ↓xS_tryK, ↓xS_never, ↓xS_mv0, ↓xS_aug, ↓eF_l, noF_nil, noF_dat, noF_no, noF_lst, noF_dK, ↓sK_j, ↓xE_callS, ↓xE_lc, ↓xE_lc2, ↓xE_callL, ↓rvA_d, ↓tw2_t, ↓sN_0, ↓sN_s, ↓xE_lrg, ↓xE_trg, ↓xE_pop, ↓xE_idxL, ↓sT_s, ↓xE_idxT, ↓xE_dget, ↓xE_din, ↓xE_dnin, ↓xE_dset, ↓xE_dspV, ↓xE_dspC, ↓xE_dspM, ↓tE_d, ↓xI_rng3, ↓xA_nil, ↓xA_cons, ↓xT_te, ↓xT_tb, ↓xT_nt, ↓xT_an, ↓xT_or, ↓xT_yes, ↓xT_lend, ↓xP_no, ↓xP_at, ↓xI_rng1, ↓xI_rng2, ↓xI_u, ↓xI_en, ↓xI_enl, ↓xG_nm, ↓xG_tup, ↓xGs_nil, ↓xGs_cons, ↓sV_d, ↓sV_n, ↓sV_w, ↓rV_d, ↓rV_n, ↓rV_w, ↓rV_o, ↓xS_set, ↓xS_asg, ↓xS_seti, ↓xS_app, ↓xS_newD, ↓xS_dput, ↓xS_drop, ↓xS_dropX, ↓xS_raise, ↓xS_tryC, ↓xS_ret, ↓xS_retN, ↓xS_iff, ↓xS_for, ↓xS_wh, ↓xS_brk, ↓xS_cont, ↓xS_nx, ↓xS_seq, ↓xS_fz, ↓fzK_l, ↓fzK_d, ↓fzK_n, ↓fzK_D, ↓kS_nx, ↓kS_rt, ↓kS_bk, ↓kS_ct, ↓out1_rt, ↓out2_rt, ↓xE_allIn, ↓xE_inC, ↓xE_isB, ↓strD_s, ↓xE_callT, ↓xE_callLam, ↓xE_xin, ↓xE_xget, ↓xE_xdc, ↓xE_xd1, ↓xE_srK, ↓xE_hasX, ↓xS_newX, ↓xS_xput, ↓eT_l, noF_dT, ↓lamV_d
, ↓xE_anyNe, ↓xI_zp, ↓zpD_t, ↓xS_asgXn, ↓xS_asgXt, ↓yV_d, ↓u_c_freer_entries, enE, ↓oZ_eqP, Bool.false_eq_true]
      rfl
    · have d := decide_eq_false h
      simp (config := { implicitDefEqProofs := false }) (disch := walk_at "side") only [↓reduceIte, decide_eq_true_eq, decide_true, decide_false, Bool.not_true, Bool.not_false, Bool.false_eq_true, Int.reduceEq, Int.reduceLT, Int.reduceLE, Int.reduceNeg, Int.reduceToNat, ↓okI, ↓okI2, ↓aV_d, ↓aV_o, ↓aV_n, ↓aV_w, ↓dV_d, ↓dV_wD, ↓aV_wD, ↓dO_d, ↓kV_w, ↓xE_dinD, ↓xE_dninD, ↓xE_dgetD, ↓xE_fnv, ↓xE_callF, ↓xE_callE, ↓xE_isaT, ↓xE_dspb, ↓xI_ukd, ↓xS_retD, ↓xS_fzD, ↓fzKD_D, ↓fzKD_d, ↓dV_n, ↓dV_w, ↓gE_0, ↓gE_s, ↓eL_l, ↓eD_l, ↓eV_d, ↓eV_l, ↓nA_d, ↓nA_o, ↓iD_i, ↓bD_b, ↓kD_i, ↓kD_s, ↓zD_d, ↓vZ_d, ↓vZ_n, ↓sR_0, ↓sR_s, ↓sK_n, ↓sK_0, ↓lD_l, ↓sD_l, ↓sD_t, ↓tD_t, ↓dA_nil, ↓dA_d, ↓dN_nil, ↓dN_c, ↓oZ_addI, ↓oZ_addS, ↓oZ_addT, ↓oZ_addL, ↓oZ_sub, ↓oZ_mul, ↓oZ_mulT, ↓oZ_mulL, ↓oZ_fdiv, ↓oZ_mod, ↓oZ_pow, ↓oZ_eqI, ↓oZ_eqS, ↓oZ_neS, ↓oZ_neI, ↓oZ_lt, ↓oZ_le, ↓oZ_gt, ↓oZ_ge, ↓oZ_ixL, ↓oZ_ixT, ↓aI_0, ↓aI_1, ↓aI_2, ↓nI_0, ↓nI_1, ↓lS_0, ↓lS_s, ↓aI_int, ↓aI_str, ↓aI_row, ↓aI_b2, ↓aI_i1, ↓aI_i2, ↓aI_i3, ↓aI_i4, ↓aI_i5, ↓aI_i6, ↓oZ_abyz, ↓oZ_az, ↓cZ_lenLm, ↓cZ_lenTm, ↓cZ_lenP, ↓oZ_ixP, ↓sD_P, ↓cZ_lstP, ↓cZ_abs, ↓cZ_int, ↓cZ_intB, ↓cZ_tup, ↓cZ_lstL, ↓cZ_lstT, ↓cZ_all, ↓cZ_any, ↓cZ_max2, ↓cZ_min2, ↓cZ_sum, ↓cZ_sorted, ↓xE_int, ↓xE_bl, ↓xE_str, ↓xE_non, ↓xE_var, ↓xE_op, ↓xE_neg, ↓xE_nt, ↓xE_an, ↓xE_or, ↓xE_ch, ↓xE_isN, ↓xE_notN, ↓xE_ife, ↓xE_tup, ↓xE_lst, ↓xE_sl, ↓sl1_T, ↓sl1_L, ↓xE_cb, ↓xE_isa, ↓xE_call, ↓xE_callX, ↓xE_lget, ↓xE_srs, xE_revT, ↓xE_revL, ↓xE_sw, ↓s2D_s, ↓xB_sif, ↓xE_dget2, ↓xT_tl, ↓xI_ky, ↓xS_lk0, ↓xR_x, ↓xR_call, ↓xR_lst, ↓xR_e, ↓xB_ret, ↓xB_iff, ↓xS_tryK, ↓xS_never, ↓xS_mv0, ↓xS_aug, ↓eF_l, noF_nil, noF_dat, noF_no, noF_lst, noF_dK, ↓sK_j, ↓xE_callS, ↓xE_lc, ↓xE_lc2, ↓xE_callL, ↓rvA_d, ↓tw2_t, ↓sN_0, ↓sN_s, ↓xE_lrg, ↓xE_trg, ↓xE_pop, ↓xE_idxL, ↓sT_s, ↓xE_idxT, ↓xE_dget, ↓xE_din, ↓xE_dnin, ↓xE_dset, ↓xE_dspV, ↓xE_dspC, ↓xE_dspM, ↓tE_d, ↓xI_rng3, ↓xA_nil, ↓xA_cons, ↓xT_te, ↓xT_tb, ↓xT_nt, ↓xT_an, ↓xT_or, ↓xT_yes, ↓xT_lend, ↓xP_no, ↓xP_at, ↓xI_rng1, ↓xI_rng2, ↓xI_u, ↓xI_en, ↓xI_enl, ↓xG_nm, ↓xG_tup, ↓xGs_nil, ↓xGs_cons, ↓sV_d, ↓sV_n, ↓sV_w, ↓rV_d, ↓rV_n, ↓rV_w, ↓rV_o, ↓xS_set, ↓xS_asg, ↓xS_seti, ↓xS_app, ↓xS_newD, ↓xS_dput, ↓xS_drop, ↓xS_dropX, ↓xS_raise, ↓xS_tryC, ↓xS_ret, ↓xS_retN, ↓xS_iff, ↓xS_for, ↓xS_wh, ↓xS_brk, ↓xS_cont, ↓xS_nx, ↓xS_seq, ↓xS_fz, ↓fzK_l, ↓fzK_d, ↓fzK_n, ↓fzK_D, ↓kS_nx, ↓kS_rt, ↓kS_bk, ↓kS_ct, ↓out1_rt, ↓out2_rt, ↓xE_allIn, ↓xE_inC, ↓xE_isB, ↓strD_s, ↓xE_callT, ↓xE_callLam, ↓xE_xin, ↓xE_xget, ↓xE_xdc, ↓xE_xd1, ↓xE_srK, ↓xE_hasX, ↓xS_newX, ↓xS_xput, ↓eT_l, noF_dT, ↓lamV_d
, ↓xE_anyNe, ↓xI_zp, ↓zpD_t, ↓xS_asgXn, ↓xS_asgXt, ↓yV_d, ↓u_c_freer_entries, enE, ↓oZ_eqP, Bool.false_eq_true, d]
      rw [frE_s, if_neg h]
      rfl
theorem freer_entriesK {β : Type} (e : Entry) {kv : Vl → Option β} : cK f_freer_entries [enE e] kv = kv (.w (.lst ((frE e).map enE))) := cK_s (freer_entries_eq e)
theorem fr_len (e : Entry) : (frE e).length ≤ 3 := by
  cases e with
  | none => decide
  | some p =>
    obtain ⟨v, u⟩ := p
    rw [frE_s]
    split <;> simp
theorem fr_self (e : Entry) : e ∈ frE e := by
  cases e with
  | none => simp [frE]
  | some p =>
    obtain ⟨v, u⟩ := p
    rw [frE_s]
    split <;> simp
theorem fr_mem {a b : Entry} : a ∈ frE b ↔ a = none ∨ ∃ v u u', a = some (v, u) ∧ b = some (v, u') ∧ (u = -1 ∨ u = u') := by
  cases b with
  | none =>
    constructor
    · intro h
      exact .inl (by simpa [frE] using h)
    · rintro (h | ⟨v, u, u', _, h, _⟩)
      · rw [h]; simp [frE]
      · cases h
  | some p =>
    obtain ⟨v, u⟩ := p
    rw [frE_s]
    by_cases h : u = -1
    · subst h
      rw [if_pos rfl]
      constructor
      · intro m
        rcases List.mem_cons.mp m with m | m
        · exact .inl m
        · exact .inr ⟨v, -1, -1, List.mem_singleton.mp m, rfl, .inl rfl⟩
      · rintro (m | ⟨w, x, y, h1, h2, h3⟩)
        · rw [m]; simp
        · cases h2
          rw [h1]
          rcases h3 with h3 | h3 <;> rw [h3] <;> simp
    · rw [if_neg h]
      constructor
      · intro m
        rcases List.mem_cons.mp m with m | m
        · exact .inl m
        · rcases List.mem_cons.mp m with m | m
          · exact .inr ⟨v, -1, u, m, rfl, .inl rfl⟩
          · exact .inr ⟨v, u, u, List.mem_singleton.mp m, rfl, .inr rfl⟩
      · rintro (m | ⟨w, x, y, h1, h2, h3⟩)
        · rw [m]; simp
        · cases h2
          rw [h1]
          rcases h3 with h3 | h3 <;> rw [h3] <;> simp
/-- all stands that are at least as free -/
def frS : List Entry → List (List Entry) := fun s => s.foldl (fun found e => found.flatMap fun b => (frE e).map fun f => b ++ [f]) [[]]
/-- at least as free -/
def frB : List Entry → List Entry → Bool
  | [], [] => true
  | a :: s, b :: t => decide (a ∈ frE b) && frB s t
  | _, _ => false
theorem frB_self : ∀ s : List Entry, frB s s = true
  | [] => rfl
  | a :: s => by unfold frB; rw [decide_eq_true (fr_self a), frB_self s]; rfl
theorem frS_mem : ∀ (s : List Entry) (found : List (List Entry)) (t : List Entry), t ∈ s.foldl (fun found e => found.flatMap fun b => (frE e).map fun f => b ++ [f]) found ↔ ∃ b r, b ∈ found ∧ t = b ++ r ∧ frB r s = true
  | [], found, t => by
    constructor
    · intro h
      exact ⟨t, [], h, by simp, rfl⟩
    · rintro ⟨b, r, h, e, h2⟩
      cases r with
      | nil => rw [e, List.append_nil]; exact h
      | cons _ _ => cases h2
  | e :: s, found, t => by
    rw [List.foldl_cons, frS_mem s]
    constructor
    · rintro ⟨b, r, h, e1, h2⟩
      obtain ⟨b0, m0, mb⟩ := List.mem_flatMap.mp h
      obtain ⟨f, mf, e2⟩ := List.mem_map.mp mb
      refine ⟨b0, f :: r, m0, ?_, ?_⟩
      · rw [e1, ← e2, List.append_assoc]; rfl
      · unfold frB; rw [decide_eq_true mf, h2]; rfl
    · rintro ⟨b, r, h, e1, h2⟩
      cases r with
      | nil => cases h2
      | cons f r =>
        unfold frB at h2
        rw [Bool.and_eq_true] at h2
        refine ⟨b ++ [f], r, List.mem_flatMap.mpr ⟨b, h, List.mem_map.mpr ⟨f, of_decide_eq_true h2.1, rfl⟩⟩, ?_, h2.2⟩
        rw [e1, List.append_assoc]; rfl
theorem mem_frS {s t : List Entry} : t ∈ frS s ↔ frB t s = true := by
  unfold frS
  rw [frS_mem]
  constructor
  · rintro ⟨b, r, h, e, h2⟩
    rw [List.mem_singleton.mp h, List.nil_append] at e
    rw [e]; exact h2
  · intro h
    exact ⟨[], t, by simp, rfl, h⟩
theorem frS_len : ∀ (s : List Entry) (found : List (List Entry)), (s.foldl (fun found e => found.flatMap fun b => (frE e).map fun f => b ++ [f]) found).length ≤ found.length * 3 ^ s.length
  | [], found => by simp
  | e :: s, found => by
    rw [List.foldl_cons]
    have h := frS_len s (found.flatMap fun b => (frE e).map fun f => b ++ [f])
    have h2 : (found.flatMap fun b => (frE e).map fun f => b ++ [f]).length ≤ found.length * 3 := by
      clear h
      induction found with
      | nil => simp
      | cons b found ih =>
        rw [List.flatMap_cons, List.length_append, List.length_map, List.length_cons]
        have := fr_len e
        omega
    have h3 := Nat.mul_le_mul_right (3 ^ s.length) h2
    rw [List.length_cons, Nat.pow_succ]
    rw [Nat.mul_assoc, Nat.mul_comm 3] at h3
    omega
theorem fold_frS : ∀ (s : List Entry) (found : List (List Entry)) (e2 : Ent) (d0 : D) {o : List (List Entry)}, found.length * 3 ^ s.length < 16777216 → (∀ b ∈ found, b.length + s.length ≤ 4) → o = s.foldl (fun found e => found.flatMap fun b => (frE e).map fun f => b ++ [f]) found →
    ∀ (ds : List D), ds = s.map enE → ∃ e2', forGo (trn [] (.nm 2) b_freer_stands_3) ds [.dat d0, .own (.lst (found.map standD)), e2, .no, .no] = some (.nx [.dat d0, .own (.lst (o.map standD)), e2', .no, .no])
  | [], found, e2, d0, o, _, _, ho, ds, hd => by
    subst hd; subst ho
    exact ⟨e2, rfl⟩
  | e :: s, found, e2, d0, o, hz, hb, ho, ds, hd => by
    subst hd
    have l1 : (found.flatMap fun b => (frE e).map fun f => b ++ [f]).length ≤ found.length * 3 := by
      have h := frS_len [e] found
      simpa using h
    have hz1 : found.length * 3 * 3 ^ s.length < 16777216 := by
      rw [List.length_cons, Nat.pow_succ] at hz
      rw [Nat.mul_assoc, Nat.mul_comm 3]
      exact hz
    have hz2 := Nat.lt_of_le_of_lt (Nat.mul_le_mul_right (3 ^ s.length) l1) hz1
    have hpos : 1 ≤ 3 ^ s.length := Nat.pow_pos (by decide)
    have lz : (found.flatMap fun b => (frE e).map fun f => b ++ [f]).length < 16777216 := Nat.lt_of_le_of_lt (Nat.le_mul_of_pos_right _ hpos) hz2
    obtain ⟨e2', t⟩ := fold_frS s (found.flatMap fun b => (frE e).map fun f => b ++ [f]) (.dat (enE e)) d0 (o := o) hz2 (fun b m => by
      obtain ⟨b0, m0, mb⟩ := List.mem_flatMap.mp m
      obtain ⟨f, mf, e2⟩ := List.mem_map.mp mb
      have := hb b0 m0
      rw [List.length_cons] at this
      rw [← e2, List.length_append, List.length_singleton]
      omega) ho _ rfl
    refine ⟨e2', ?_⟩
    show (trn [] (.nm 2) b_freer_stands_3 (enE e) _).bind _ = _
    have T : trn [] (.nm 2) b_freer_stands_3 (enE e) [.dat d0, .own (.lst (found.map standD)), e2, .no, .no] = some (.nx [.dat d0, .own (.lst ((found.flatMap fun b => (frE e).map fun f => b ++ [f]).map standD)), .dat (enE e), .no, .no]) := by
      have G : lccGo (ltt [] 3 (.u (.call f_freer_entries (.cons (.var 2) (.nil)))) 4 e_freer_stands_1) (found.map standD) [.dat d0, .dat (.list (found.map standD)), .dat (enE e), .no, .no] = some (found.flatMap (fun b => (frE e).map fun f => standD (b ++ [f])), [.dat d0, .dat (.list (found.map standD)), .dat (enE e), .no, .no]) := by
        refine lcc_map standD _ fun b mb => ?_
        rw [ltt_x (by simp)]
        have K : lcGo (ltf [] 4 e_freer_stands_1) ((frE e).map enE) [.dat d0, .dat (.list (found.map standD)), .dat (enE e), .dat (standD b), .no] = some ((frE e).map fun f => standD (b ++ [f]), [.dat d0, .dat (.list (found.map standD)), .dat (enE e), .dat (standD b), .no]) := by
          refine lc_map _ _ fun f m => ?_
          rw [ltf_x]
          have zb := hb b mb
          rw [List.length_cons] at zb
          have za : (b.map enE).length + [enE f].length ≤ sizeLine := by rw [List.length_map, List.length_singleton, sizeLine_eq]; omega
          have ap : b.map enE ++ [enE f] = (b ++ [f]).map enE := by simp
          unfold standD at *
          simp (config := { implicitDefEqProofs := false }) (disch := walk_at "side") only [↓reduceIte, decide_eq_true_eq, decide_true, decide_false, Bool.not_true, Bool.not_false, Bool.false_eq_true, Int.reduceEq, Int.reduceLT, Int.reduceLE, Int.reduceNeg, Int.reduceToNat, ↓okI, ↓okI2, ↓aV_d, ↓aV_o, ↓aV_n, ↓aV_w, ↓dV_d, ↓dV_wD, ↓aV_wD, ↓dO_d, ↓kV_w, ↓xE_dinD, ↓xE_dninD, ↓xE_dgetD, ↓xE_fnv, ↓xE_callF, ↓xE_callE, ↓xE_isaT, ↓xE_dspb, ↓xI_ukd, ↓xS_retD, ↓xS_fzD, ↓fzKD_D, ↓fzKD_d, ↓dV_n, ↓dV_w, ↓gE_0, ↓gE_s, ↓eL_l, ↓eD_l, ↓eV_d, ↓eV_l, ↓nA_d, ↓nA_o, ↓iD_i, ↓bD_b, ↓kD_i, ↓kD_s, ↓zD_d, ↓vZ_d, ↓vZ_n, ↓sR_0, ↓sR_s, ↓sK_n, ↓sK_0, ↓lD_l, ↓sD_l, ↓sD_t, ↓tD_t, ↓dA_nil, ↓dA_d, ↓dN_nil, ↓dN_c, ↓oZ_addI, ↓oZ_addS, ↓oZ_addT, ↓oZ_addL, ↓oZ_sub, ↓oZ_mul, ↓oZ_mulT, ↓oZ_mulL, ↓oZ_fdiv, ↓oZ_mod, ↓oZ_pow, ↓oZ_eqI, ↓oZ_eqS, ↓oZ_neS, ↓oZ_neI, ↓oZ_lt, ↓oZ_le, ↓oZ_gt, ↓oZ_ge, ↓oZ_ixL, ↓oZ_ixT, ↓aI_0, ↓aI_1, ↓aI_2, ↓nI_0, ↓nI_1, ↓lS_0, ↓lS_s, ↓aI_int, ↓aI_str, ↓aI_row, ↓aI_b2, ↓aI_i1, ↓aI_i2, ↓aI_i3, ↓aI_i4, ↓aI_i5, ↓aI_i6, ↓oZ_abyz, ↓oZ_az, ↓cZ_lenLm, ↓cZ_lenTm, ↓cZ_lenP, ↓oZ_ixP, ↓sD_P, ↓cZ_lstP, ↓cZ_abs, ↓cZ_int, ↓cZ_intB, ↓cZ_tup, ↓cZ_lstL, ↓cZ_lstT, ↓cZ_all, ↓cZ_any, ↓cZ_max2, ↓cZ_min2, ↓cZ_sum, ↓cZ_sorted, ↓xE_int, ↓xE_bl, ↓xE_str, ↓xE_non, ↓xE_var, ↓xE_op, ↓xE_neg, ↓xE_nt, ↓xE_an, ↓xE_or, ↓xE_ch, ↓xE_isN, ↓xE_notN, ↓xE_ife, ↓xE_tup, ↓xE_lst, ↓xE_sl, ↓sl1_T, ↓sl1_L, ↓xE_cb, ↓xE_isa, ↓xE_call, ↓xE_callX, ↓xE_lget, ↓xE_srs, xE_revT, ↓xE_revL, ↓xE_sw, ↓s2D_s, ↓xB_sif, ↓xE_dget2, ↓xT_tl, ↓xI_ky, ↓xS_lk0, ↓xR_x, ↓xR_call, ↓xR_lst, ↓xR_e, ↓xB_ret, ↓xB_iff, ↓xS_tryK, ↓xS_never, ↓xS_mv0, ↓xS_aug, ↓eF_l, noF_nil, noF_dat, noF_no, noF_lst, noF_dK, ↓sK_j, ↓xE_callS, ↓xE_lc, ↓xE_lc2, ↓xE_callL, ↓rvA_d, ↓tw2_t, ↓sN_0, ↓sN_s, ↓xE_lrg, ↓xE_trg, ↓xE_pop, ↓xE_idxL, ↓sT_s, ↓xE_idxT, ↓xE_dget, ↓xE_din, ↓xE_dnin, ↓xE_dset, ↓xE_dspV, ↓xE_dspC, ↓xE_dspM, ↓tE_d, ↓xI_rng3, ↓xA_nil, ↓xA_cons, ↓xT_te, ↓xT_tb, ↓xT_nt, ↓xT_an, ↓xT_or, ↓xT_yes, ↓xT_lend, ↓xP_no, ↓xP_at, ↓xI_rng1, ↓xI_rng2, ↓xI_u, ↓xI_en, ↓xI_enl, ↓xG_nm, ↓xG_tup, ↓xGs_nil, ↓xGs_cons, ↓sV_d, ↓sV_n, ↓sV_w, ↓rV_d, ↓rV_n, ↓rV_w, ↓rV_o, ↓xS_set, ↓xS_asg, ↓xS_seti, ↓xS_app, ↓xS_newD, ↓xS_dput, ↓xS_drop, ↓xS_dropX, ↓xS_raise, ↓xS_tryC, ↓xS_ret, ↓xS_retN, ↓xS_iff, ↓xS_for, ↓xS_wh, ↓xS_brk, ↓xS_cont, ↓xS_nx, ↓xS_seq, ↓xS_fz, ↓fzK_l, ↓fzK_d, ↓fzK_n, ↓fzK_D, ↓kS_nx, ↓kS_rt, ↓kS_bk, ↓kS_ct, ↓out1_rt, ↓out2_rt, ↓xE_allIn, ↓xE_inC, ↓xE_isB, ↓strD_s, ↓xE_callT, ↓xE_callLam, ↓xE_xin, ↓xE_xget, ↓xE_xdc, ↓xE_xd1, ↓xE_srK, ↓xE_hasX, ↓xS_newX, ↓xS_xput, ↓eT_l, noF_dT, ↓lamV_d
, ↓xE_anyNe, ↓xI_zp, ↓zpD_t, ↓xS_asgXn, ↓xS_asgXt, ↓yV_d, ↓u_e_freer_stands_1, ap]
        have zl : ((frE e).map enE).length < sizeLine := by
          have := fr_len e
          rw [List.length_map, sizeLine_eq]; omega
        unfold standD at *
        simp (config := { implicitDefEqProofs := false }) (disch := walk_at "side") only [↓reduceIte, decide_eq_true_eq, decide_true, decide_false, Bool.not_true, Bool.not_false, Bool.false_eq_true, Int.reduceEq, Int.reduceLT, Int.reduceLE, Int.reduceNeg, Int.reduceToNat, ↓okI, ↓okI2, ↓aV_d, ↓aV_o, ↓aV_n, ↓aV_w, ↓dV_d, ↓dV_wD, ↓aV_wD, ↓dO_d, ↓kV_w, ↓xE_dinD, ↓xE_dninD, ↓xE_dgetD, ↓xE_fnv, ↓xE_callF, ↓xE_callE, ↓xE_isaT, ↓xE_dspb, ↓xI_ukd, ↓xS_retD, ↓xS_fzD, ↓fzKD_D, ↓fzKD_d, ↓dV_n, ↓dV_w, ↓gE_0, ↓gE_s, ↓eL_l, ↓eD_l, ↓eV_d, ↓eV_l, ↓nA_d, ↓nA_o, ↓iD_i, ↓bD_b, ↓kD_i, ↓kD_s, ↓zD_d, ↓vZ_d, ↓vZ_n, ↓sR_0, ↓sR_s, ↓sK_n, ↓sK_0, ↓lD_l, ↓sD_l, ↓sD_t, ↓tD_t, ↓dA_nil, ↓dA_d, ↓dN_nil, ↓dN_c, ↓oZ_addI, ↓oZ_addS, ↓oZ_addT, ↓oZ_addL, ↓oZ_sub, ↓oZ_mul, ↓oZ_mulT, ↓oZ_mulL, ↓oZ_fdiv, ↓oZ_mod, ↓oZ_pow, ↓oZ_eqI, ↓oZ_eqS, ↓oZ_neS, ↓oZ_neI, ↓oZ_lt, ↓oZ_le, ↓oZ_gt, ↓oZ_ge, ↓oZ_ixL, ↓oZ_ixT, ↓aI_0, ↓aI_1, ↓aI_2, ↓nI_0, ↓nI_1, ↓lS_0, ↓lS_s, ↓aI_int, ↓aI_str, ↓aI_row, ↓aI_b2, ↓aI_i1, ↓aI_i2, ↓aI_i3, ↓aI_i4, ↓aI_i5, ↓aI_i6, ↓oZ_abyz, ↓oZ_az, ↓cZ_lenLm, ↓cZ_lenTm, ↓cZ_lenP, ↓oZ_ixP, ↓sD_P, ↓cZ_lstP, ↓cZ_abs, ↓cZ_int, ↓cZ_intB, ↓cZ_tup, ↓cZ_lstL, ↓cZ_lstT, ↓cZ_all, ↓cZ_any, ↓cZ_max2, ↓cZ_min2, ↓cZ_sum, ↓cZ_sorted, ↓xE_int, ↓xE_bl, ↓xE_str, ↓xE_non, ↓xE_var, ↓xE_op, ↓xE_neg, ↓xE_nt, ↓xE_an, ↓xE_or, ↓xE_ch, ↓xE_isN, ↓xE_notN, ↓xE_ife, ↓xE_tup, ↓xE_lst, ↓xE_sl, ↓sl1_T, ↓sl1_L, ↓xE_cb, ↓xE_isa, ↓xE_call, ↓xE_callX, ↓xE_lget, ↓xE_srs, xE_revT, ↓xE_revL, ↓xE_sw, ↓s2D_s, ↓xB_sif, ↓xE_dget2, ↓xT_tl, ↓xI_ky, ↓xS_lk0, ↓xR_x, ↓xR_call, ↓xR_lst, ↓xR_e, ↓xB_ret, ↓xB_iff, ↓xS_tryK, ↓xS_never, ↓xS_mv0, ↓xS_aug, ↓eF_l, noF_nil, noF_dat, noF_no, noF_lst, noF_dK, ↓sK_j, ↓xE_callS, ↓xE_lc, ↓xE_lc2, ↓xE_callL, ↓rvA_d, ↓tw2_t, ↓sN_0, ↓sN_s, ↓xE_lrg, ↓xE_trg, ↓xE_pop, ↓xE_idxL, ↓sT_s, ↓xE_idxT, ↓xE_dget, ↓xE_din, ↓xE_dnin, ↓xE_dset, ↓xE_dspV, ↓xE_dspC, ↓xE_dspM, ↓tE_d, ↓xI_rng3, ↓xA_nil, ↓xA_cons, ↓xT_te, ↓xT_tb, ↓xT_nt, ↓xT_an, ↓xT_or, ↓xT_yes, ↓xT_lend, ↓xP_no, ↓xP_at, ↓xI_rng1, ↓xI_rng2, ↓xI_u, ↓xI_en, ↓xI_enl, ↓xG_nm, ↓xG_tup, ↓xGs_nil, ↓xGs_cons, ↓sV_d, ↓sV_n, ↓sV_w, ↓rV_d, ↓rV_n, ↓rV_w, ↓rV_o, ↓xS_set, ↓xS_asg, ↓xS_seti, ↓xS_app, ↓xS_newD, ↓xS_dput, ↓xS_drop, ↓xS_dropX, ↓xS_raise, ↓xS_tryC, ↓xS_ret, ↓xS_retN, ↓xS_iff, ↓xS_for, ↓xS_wh, ↓xS_brk, ↓xS_cont, ↓xS_nx, ↓xS_seq, ↓xS_fz, ↓fzK_l, ↓fzK_d, ↓fzK_n, ↓fzK_D, ↓kS_nx, ↓kS_rt, ↓kS_bk, ↓kS_ct, ↓out1_rt, ↓out2_rt, ↓xE_allIn, ↓xE_inC, ↓xE_isB, ↓strD_s, ↓xE_callT, ↓xE_callLam, ↓xE_xin, ↓xE_xget, ↓xE_xdc, ↓xE_xd1, ↓xE_srK, ↓xE_hasX, ↓xS_newX, ↓xS_xput, ↓eT_l, noF_dT, ↓lamV_d
, ↓xE_anyNe, ↓xI_zp, ↓zpD_t, ↓xS_asgXn, ↓xS_asgXt, ↓yV_d, ↓freer_entriesK, ↓lK_s K]
      have ez : (found.flatMap fun b => (frE e).map fun f => standD (b ++ [f])).length < sizeLine := by
        rw [sizeLine_eq]
        have : (found.flatMap fun b => (frE e).map fun f => standD (b ++ [f])).length = (found.flatMap fun b => (frE e).map fun f => b ++ [f]).length := by
          simp [List.length_flatMap]
        omega
      rw [trn_x]
      simp (config := { implicitDefEqProofs := false }) (disch := walk_at "side") only [↓reduceIte, decide_eq_true_eq, decide_true, decide_false, Bool.not_true, Bool.not_false, Bool.false_eq_true, Int.reduceEq, Int.reduceLT, Int.reduceLE, Int.reduceNeg, Int.reduceToNat, ↓okI, ↓okI2, ↓aV_d, ↓aV_o, ↓aV_n, ↓aV_w, ↓dV_d, ↓dV_wD, ↓aV_wD, ↓dO_d, ↓kV_w, ↓xE_dinD, ↓xE_dninD, ↓xE_dgetD, ↓xE_fnv, ↓xE_callF, ↓xE_callE, ↓xE_isaT, ↓xE_dspb, ↓xI_ukd, ↓xS_retD, ↓xS_fzD, ↓fzKD_D, ↓fzKD_d, ↓dV_n, ↓dV_w, ↓gE_0, ↓gE_s, ↓eL_l, ↓eD_l, ↓eV_d, ↓eV_l, ↓nA_d, ↓nA_o, ↓iD_i, ↓bD_b, ↓kD_i, ↓kD_s, ↓zD_d, ↓vZ_d, ↓vZ_n, ↓sR_0, ↓sR_s, ↓sK_n, ↓sK_0, ↓lD_l, ↓sD_l, ↓sD_t, ↓tD_t, ↓dA_nil, ↓dA_d, ↓dN_nil, ↓dN_c, ↓oZ_addI, ↓oZ_addS, ↓oZ_addT, ↓oZ_addL, ↓oZ_sub, ↓oZ_mul, ↓oZ_mulT, ↓oZ_mulL, ↓oZ_fdiv, ↓oZ_mod, ↓oZ_pow, ↓oZ_eqI, ↓oZ_eqS, ↓oZ_neS, ↓oZ_neI, ↓oZ_lt, ↓oZ_le, ↓oZ_gt, ↓oZ_ge, ↓oZ_ixL, ↓oZ_ixT, ↓aI_0, ↓aI_1, ↓aI_2, ↓nI_0, ↓nI_1, ↓lS_0, ↓lS_s, ↓aI_int, ↓aI_str, ↓aI_row, ↓aI_b2, ↓aI_i1, ↓aI_i2, ↓aI_i3, ↓aI_i4, ↓aI_i5, ↓aI_i6, ↓oZ_abyz, ↓oZ_az, ↓cZ_lenLm, ↓cZ_lenTm, ↓cZ_lenP, ↓oZ_ixP, ↓sD_P, ↓cZ_lstP, ↓cZ_abs, ↓cZ_int, ↓cZ_intB, ↓cZ_tup, ↓cZ_lstL, ↓cZ_lstT, ↓cZ_all, ↓cZ_any, ↓cZ_max2, ↓cZ_min2, ↓cZ_sum, ↓cZ_sorted, ↓xE_int, ↓xE_bl, ↓xE_str, ↓xE_non, ↓xE_var, ↓xE_op, ↓xE_neg, ↓xE_nt, ↓xE_an, ↓xE_or, ↓xE_ch, ↓xE_isN, ↓xE_notN, ↓xE_ife, ↓xE_tup, ↓xE_lst, ↓xE_sl, ↓sl1_T, ↓sl1_L, ↓xE_cb, ↓xE_isa, ↓xE_call, ↓xE_callX, ↓xE_lget, ↓xE_srs, xE_revT, ↓xE_revL, ↓xE_sw, ↓s2D_s, ↓xB_sif, ↓xE_dget2, ↓xT_tl, ↓xI_ky, ↓xS_lk0, ↓xR_x, ↓xR_call, ↓xR_lst, ↓xR_e, ↓xB_ret, ↓xB_iff, ↓xS_tryK, ↓xS_never, ↓xS_mv0, ↓xS_aug, ↓eF_l, noF_nil, noF_dat, noF_no, noF_lst, noF_dK, ↓sK_j, ↓xE_callS, ↓xE_lc, ↓xE_lc2, ↓xE_callL, ↓rvA_d, ↓tw2_t, ↓sN_0, ↓sN_s, ↓xE_lrg, ↓xE_trg, ↓xE_pop, ↓xE_idxL, ↓sT_s, ↓xE_idxT, ↓xE_dget, ↓xE_din, ↓xE_dnin, ↓xE_dset, ↓xE_dspV, ↓xE_dspC, ↓xE_dspM, ↓tE_d, ↓xI_rng3, ↓xA_nil, ↓xA_cons, ↓xT_te, ↓xT_tb, ↓xT_nt, ↓xT_an, ↓xT_or, ↓xT_yes, ↓xT_lend, ↓xP_no, ↓xP_at, ↓xI_rng1, ↓xI_rng2, ↓xI_u, ↓xI_en, ↓xI_enl, ↓xG_nm, ↓xG_tup, ↓xGs_nil, ↓xGs_cons, ↓sV_d, ↓sV_n, ↓sV_w, ↓rV_d, ↓rV_n, ↓rV_w, ↓rV_o, ↓xS_set, ↓xS_asg, ↓xS_seti, ↓xS_app, ↓xS_newD, ↓xS_dput, ↓xS_drop, ↓xS_dropX, ↓xS_raise, ↓xS_tryC, ↓xS_ret, ↓xS_retN, ↓xS_iff, ↓xS_for, ↓xS_wh, ↓xS_brk, ↓xS_cont, ↓xS_nx, ↓xS_seq, ↓xS_fz, ↓fzK_l, ↓fzK_d, ↓fzK_n, ↓fzK_D, ↓kS_nx, ↓kS_rt, ↓kS_bk, ↓kS_ct, ↓out1_rt, ↓out2_rt, ↓xE_allIn, ↓xE_inC, ↓xE_isB, ↓strD_s, ↓xE_callT, ↓xE_callLam, ↓xE_xin, ↓xE_xget, ↓xE_xdc, ↓xE_xd1, ↓xE_srK, ↓xE_hasX, ↓xS_newX, ↓xS_xput, ↓eT_l, noF_dT, ↓lamV_d
, ↓xE_anyNe, ↓xI_zp, ↓zpD_t, ↓xS_asgXn, ↓xS_asgXt, ↓yV_d, ↓u_b_freer_stands_3, ↓xE_lcc, ↓llK_s G ez]
      rw [List.map_flatMap]
      simp only [List.map_map]
      rfl
    rw [T]
    exact t
theorem freer_stands_eq {s : List Entry} (h4 : s.length ≤ 4) : f_freer_stands [standD s] = some (.new (.lst ((frS s).map standD))) := by
  have p3 : 3 ^ s.length ≤ 81 := by
    have := Nat.pow_le_pow_right (n := 3) (by decide) h4
    exact this
  obtain ⟨e2, T⟩ := fold_frS s [[]] .no (standD s) (o := frS s) (by rw [List.length_singleton]; omega) (fun b m => by rw [List.mem_singleton.mp m]; simpa using h4) rfl _ rfl
  have e0 : ([[]] : List (List Entry)).map standD = [.tuple []] := rfl
  rw [e0] at T
  rw [x_freer_stands]
  unfold standD at *
  simp (config := { implicitDefEqProofs := false }) (disch := walk_at "side") only [↓reduceIte, decide_eq_true_eq, decide_true, decide_false, Bool.not_true, Bool.not_false, Bool.false_eq_true, Int.reduceEq, Int.reduceLT, Int.reduceLE, Int.reduceNeg, Int.reduceToNat, ↓okI, ↓okI2, ↓aV_d, ↓aV_o, ↓aV_n, ↓aV_w, ↓dV_d, ↓dV_wD, ↓aV_wD, ↓dO_d, ↓kV_w, ↓xE_dinD, ↓xE_dninD, ↓xE_dgetD, ↓xE_fnv, ↓xE_callF, ↓xE_callE, ↓xE_isaT, ↓xE_dspb, ↓xI_ukd, ↓xS_retD, ↓xS_fzD, ↓fzKD_D, ↓fzKD_d, ↓dV_n, ↓dV_w, ↓gE_0, ↓gE_s, ↓eL_l, ↓eD_l, ↓eV_d, ↓eV_l, ↓nA_d, ↓nA_o, ↓iD_i, ↓bD_b, ↓kD_i, ↓kD_s, ↓zD_d, ↓vZ_d, ↓vZ_n, ↓sR_0, ↓sR_s, ↓sK_n, ↓sK_0, ↓lD_l, ↓sD_l, ↓sD_t, ↓tD_t, ↓dA_nil, ↓dA_d, ↓dN_nil, ↓dN_c, ↓oZ_addI, ↓oZ_addS, ↓oZ_addT, ↓oZ_addL, ↓oZ_sub, ↓oZ_mul, ↓oZ_mulT, ↓oZ_mulL, ↓oZ_fdiv, ↓oZ_mod, ↓oZ_pow, ↓oZ_eqI, ↓oZ_eqS, ↓oZ_neS, ↓oZ_neI, ↓oZ_lt, ↓oZ_le, ↓oZ_gt, ↓oZ_ge, ↓oZ_ixL, ↓oZ_ixT, ↓aI_0, ↓aI_1, ↓aI_2, ↓nI_0, ↓nI_1, ↓lS_0, ↓lS_s, ↓aI_int, ↓aI_str, ↓aI_row, ↓aI_b2, ↓aI_i1, ↓aI_i2, ↓aI_i3, ↓aI_i4, ↓aI_i5, ↓aI_i6, ↓oZ_abyz, ↓oZ_az, ↓cZ_lenLm, ↓cZ_lenTm, ↓cZ_lenP, ↓oZ_ixP, ↓sD_P, ↓cZ_lstP, ↓cZ_abs, ↓cZ_int, ↓cZ_intB, ↓cZ_tup, ↓cZ_lstL, ↓cZ_lstT, ↓cZ_all, ↓cZ_any, ↓cZ_max2, ↓cZ_min2, ↓cZ_sum, ↓cZ_sorted, ↓xE_int, ↓xE_bl, ↓xE_str, ↓xE_non, ↓xE_var, ↓xE_op, ↓xE_neg, ↓xE_nt, ↓xE_an, ↓xE_or, ↓xE_ch, ↓xE_isN, ↓xE_notN, ↓xE_ife, ↓xE_tup, ↓xE_lst, ↓xE_sl, ↓sl1_T, ↓sl1_L, ↓xE_cb, ↓xE_isa, ↓xE_call, ↓xE_callX, ↓xE_lget, ↓xE_srs, xE_revT, ↓xE_revL, ↓xE_sw, ↓s2D_s, ↓xB_sif, ↓xE_dget2, ↓xT_tl, ↓xI_ky, ↓xS_lk0, ↓xR_x, ↓xR_call, ↓xR_lst, ↓xR_e, ↓xB_ret, ↓xB_iff, ↓xS_tryK, ↓xS_never, ↓xS_mv0, ↓xS_aug, ↓eF_l, noF_nil, noF_dat, noF_no, noF_lst, noF_dK, ↓sK_j, ↓xE_callS, ↓xE_lc, ↓xE_lc2, ↓xE_callL, ↓rvA_d, ↓tw2_t, ↓sN_0, ↓sN_s, ↓xE_lrg, ↓xE_trg, ↓xE_pop, ↓xE_idxL, ↓sT_s, ↓xE_idxT, ↓xE_dget, ↓xE_din, ↓xE_dnin, ↓xE_dset, ↓xE_dspV, ↓xE_dspC, ↓xE_dspM, ↓tE_d, ↓xI_rng3, ↓xA_nil, ↓xA_cons, ↓xT_te, ↓xT_tb, ↓xT_nt, ↓xT_an, ↓xT_or, ↓xT_yes, ↓xT_lend, ↓xP_no, ↓xP_at, ↓xI_rng1, ↓xI_rng2, ↓xI_u, ↓xI_en, ↓xI_enl, ↓xG_nm, ↓xG_tup, ↓xGs_nil, ↓xGs_cons, ↓sV_d, ↓sV_n, ↓sV_w, ↓rV_d, ↓rV_n, ↓rV_w, ↓rV_o, ↓xS_set, ↓xS_asg, ↓xS_seti, ↓xS_app, ↓xS_newD, ↓xS_dput, ↓xS_drop, ↓xS_dropX, ↓xS_raise, ↓xS_tryC, ↓xS_ret, ↓xS_retN, ↓xS_iff, ↓xS_for, ↓xS_wh, ↓xS_brk, ↓xS_cont, ↓xS_nx, ↓xS_seq, ↓xS_fz, ↓fzK_l, ↓fzK_d, ↓fzK_n, ↓fzK_D, ↓kS_nx, ↓kS_rt, ↓kS_bk, ↓kS_ct, ↓out1_rt, ↓out2_rt, ↓xE_allIn, ↓xE_inC, ↓xE_isB, ↓strD_s, ↓xE_callT, ↓xE_callLam, ↓xE_xin, ↓xE_xget, ↓xE_xdc, ↓xE_xd1, ↓xE_srK, ↓xE_hasX, ↓xS_newX, ↓xS_xput, ↓eT_l, noF_dT, ↓lamV_d
, ↓xE_anyNe, ↓xI_zp, ↓zpD_t, ↓xS_asgXn, ↓xS_asgXt, ↓yV_d, ↓u_c_freer_stands, ↓fK_s T]
theorem freer_eq {s t : List Entry} (hl : s.length = t.length) (h4 : t.length ≤ 4) : f_freer [standD s, standD t] = some (.dat (.bool (frB s t))) := by
  have en : enD (s.map enE) = (List.range s.length).map fun i => PyData.tuple [.int (i : Nat), enE (s.getD i none)] := by
    unfold enD
    rw [List.length_map]
    refine List.map_congr_left fun i m => ?_
    have hi := List.mem_range.mp m
    unfold DL.pairD
    rw [nthD_map (f := enE) none hi]
  obtain ⟨ρ3, ⟨e2, e3, rfl⟩, L⟩ := for_allO (f := trn [] (.tup 2 (.cons (.nm 2) (.cons (.nm 3) (.nil)))) b_freer_1) (fun i : Nat => PyData.tuple [.int (i : Nat), enE (s.getD i none)]) (fun ρ => ∃ e2 e3, ρ = [.dat (standD s), .dat (standD t), e2, e3]) (fun i => decide (s.getD i none ∈ frE (t.getD i none))) (r := .dat (.bool false)) (l := List.range s.length) (ρ := [.dat (standD s), .dat (standD t), .no, .no]) ⟨_, _, rfl⟩ fun i m ρ ⟨e2, e3, hρ⟩ => by
    subst hρ
    have hi := List.mem_range.mp m
    have i0 : (0 : Int) ≤ ((i : Nat) : Int) := by omega
    have i1 : ((i : Nat) : Int) < ((t.length : Nat) : Int) := by omega
    have tn : ((i : Nat) : Int).toNat = i := by omega
    have sh := shE (s.getD i none)
    have sl := shEs (frE (t.getD i none))
    refine ⟨[.dat (standD s), .dat (standD t), .dat (.int (i : Nat)), .dat (enE (s.getD i none))], ⟨_, _, rfl⟩, ?_⟩
    rw [trn_x]
    unfold standD at *
    generalize hb : decide (s.getD i none ∈ frE (t.getD i none)) = bb
    cases bb with
    | true => simp (config := { implicitDefEqProofs := false }) (disch := walk_at "side") only [↓reduceIte, decide_eq_true_eq, decide_true, decide_false, Bool.not_true, Bool.not_false, Bool.false_eq_true, Int.reduceEq, Int.reduceLT, Int.reduceLE, Int.reduceNeg, Int.reduceToNat, ↓okI, ↓okI2, ↓aV_d, ↓aV_o, ↓aV_n, ↓aV_w, ↓dV_d, ↓dV_wD, ↓aV_wD, ↓dO_d, ↓kV_w, ↓xE_dinD, ↓xE_dninD, ↓xE_dgetD, ↓xE_fnv, ↓xE_callF, ↓xE_callE, ↓xE_isaT, ↓xE_dspb, ↓xI_ukd, ↓xS_retD, ↓xS_fzD, ↓fzKD_D, ↓fzKD_d, ↓dV_n, ↓dV_w, ↓gE_0, ↓gE_s, ↓eL_l, ↓eD_l, ↓eV_d, ↓eV_l, ↓nA_d, ↓nA_o, ↓iD_i, ↓bD_b, ↓kD_i, ↓kD_s, ↓zD_d, ↓vZ_d, ↓vZ_n, ↓sR_0, ↓sR_s, ↓sK_n, ↓sK_0, ↓lD_l, ↓sD_l, ↓sD_t, ↓tD_t, ↓dA_nil, ↓dA_d, ↓dN_nil, ↓dN_c, ↓oZ_addI, ↓oZ_addS, ↓oZ_addT, ↓oZ_addL, ↓oZ_sub, ↓oZ_mul, ↓oZ_mulT, ↓oZ_mulL, ↓oZ_fdiv, ↓oZ_mod, ↓oZ_pow, ↓oZ_eqI, ↓oZ_eqS, ↓oZ_neS, ↓oZ_neI, ↓oZ_lt, ↓oZ_le, ↓oZ_gt, ↓oZ_ge, ↓oZ_ixL, ↓oZ_ixT, ↓aI_0, ↓aI_1, ↓aI_2, ↓nI_0, ↓nI_1, ↓lS_0, ↓lS_s, ↓aI_int, ↓aI_str, ↓aI_row, ↓aI_b2, ↓aI_i1, ↓aI_i2, ↓aI_i3, ↓aI_i4, ↓aI_i5, ↓aI_i6, ↓oZ_abyz, ↓oZ_az, ↓cZ_lenLm, ↓cZ_lenTm, ↓cZ_lenP, ↓oZ_ixP, ↓sD_P, ↓cZ_lstP, ↓cZ_abs, ↓cZ_int, ↓cZ_intB, ↓cZ_tup, ↓cZ_lstL, ↓cZ_lstT, ↓cZ_all, ↓cZ_any, ↓cZ_max2, ↓cZ_min2, ↓cZ_sum, ↓cZ_sorted, ↓xE_int, ↓xE_bl, ↓xE_str, ↓xE_non, ↓xE_var, ↓xE_op, ↓xE_neg, ↓xE_nt, ↓xE_an, ↓xE_or, ↓xE_ch, ↓xE_isN, ↓xE_notN, ↓xE_ife, ↓xE_tup, ↓xE_lst, ↓xE_sl, ↓sl1_T, ↓sl1_L, ↓xE_cb, ↓xE_isa, ↓xE_call, ↓xE_callX, ↓xE_lget, ↓xE_srs, xE_revT, ↓xE_revL, ↓xE_sw, ↓s2D_s, ↓xB_sif, ↓xE_dget2, ↓xT_tl, ↓xI_ky, ↓xS_lk0, ↓xR_x, ↓xR_call, ↓xR_lst, ↓xR_e, ↓xB_ret, ↓xB_iff, ↓xS_tryK, ↓xS_never, ↓xS_mv0, ↓xS_aug, ↓eF_l, noF_nil, noF_dat, noF_no, noF_lst, noF_dK, ↓sK_j, ↓xE_callS, ↓xE_lc, ↓xE_lc2, ↓xE_callL, ↓rvA_d, ↓tw2_t, ↓sN_0, ↓sN_s, ↓xE_lrg, ↓xE_trg, ↓xE_pop, ↓xE_idxL, ↓sT_s, ↓xE_idxT, ↓xE_dget, ↓xE_din, ↓xE_dnin, ↓xE_dset, ↓xE_dspV, ↓xE_dspC, ↓xE_dspM, ↓tE_d, ↓xI_rng3, ↓xA_nil, ↓xA_cons, ↓xT_te, ↓xT_tb, ↓xT_nt, ↓xT_an, ↓xT_or, ↓xT_yes, ↓xT_lend, ↓xP_no, ↓xP_at, ↓xI_rng1, ↓xI_rng2, ↓xI_u, ↓xI_en, ↓xI_enl, ↓xG_nm, ↓xG_tup, ↓xGs_nil, ↓xGs_cons, ↓sV_d, ↓sV_n, ↓sV_w, ↓rV_d, ↓rV_n, ↓rV_w, ↓rV_o, ↓xS_set, ↓xS_asg, ↓xS_seti, ↓xS_app, ↓xS_newD, ↓xS_dput, ↓xS_drop, ↓xS_dropX, ↓xS_raise, ↓xS_tryC, ↓xS_ret, ↓xS_retN, ↓xS_iff, ↓xS_for, ↓xS_wh, ↓xS_brk, ↓xS_cont, ↓xS_nx, ↓xS_seq, ↓xS_fz, ↓fzK_l, ↓fzK_d, ↓fzK_n, ↓fzK_D, ↓kS_nx, ↓kS_rt, ↓kS_bk, ↓kS_ct, ↓out1_rt, ↓out2_rt, ↓xE_allIn, ↓xE_inC, ↓xE_isB, ↓strD_s, ↓xE_callT, ↓xE_callLam, ↓xE_xin, ↓xE_xget, ↓xE_xdc, ↓xE_xd1, ↓xE_srK, ↓xE_hasX, ↓xS_newX, ↓xS_xput, ↓eT_l, noF_dT, ↓lamV_d
, ↓xE_anyNe, ↓xI_zp, ↓zpD_t, ↓xS_asgXn, ↓xS_asgXt, ↓yV_d, ↓u_b_freer_1, ↓aI_ent, tn, ↓freer_entriesK, ↓oZ_ninL, inD_E, hb, Bool.not_true, Bool.false_eq_true]
    | false => simp (config := { implicitDefEqProofs := false }) (disch := walk_at "side") only [↓reduceIte, decide_eq_true_eq, decide_true, decide_false, Bool.not_true, Bool.not_false, Bool.false_eq_true, Int.reduceEq, Int.reduceLT, Int.reduceLE, Int.reduceNeg, Int.reduceToNat, ↓okI, ↓okI2, ↓aV_d, ↓aV_o, ↓aV_n, ↓aV_w, ↓dV_d, ↓dV_wD, ↓aV_wD, ↓dO_d, ↓kV_w, ↓xE_dinD, ↓xE_dninD, ↓xE_dgetD, ↓xE_fnv, ↓xE_callF, ↓xE_callE, ↓xE_isaT, ↓xE_dspb, ↓xI_ukd, ↓xS_retD, ↓xS_fzD, ↓fzKD_D, ↓fzKD_d, ↓dV_n, ↓dV_w, ↓gE_0, ↓gE_s, ↓eL_l, ↓eD_l, ↓eV_d, ↓eV_l, ↓nA_d, ↓nA_o, ↓iD_i, ↓bD_b, ↓kD_i, ↓kD_s, ↓zD_d, ↓vZ_d, ↓vZ_n, ↓sR_0, ↓sR_s, ↓sK_n, ↓sK_0, ↓lD_l, ↓sD_l, ↓sD_t, ↓tD_t, ↓dA_nil, ↓dA_d, ↓dN_nil, ↓dN_c, ↓oZ_addI, ↓oZ_addS, ↓oZ_addT, ↓oZ_addL, ↓oZ_sub, ↓oZ_mul, ↓oZ_mulT, ↓oZ_mulL, ↓oZ_fdiv, ↓oZ_mod, ↓oZ_pow, ↓oZ_eqI, ↓oZ_eqS, ↓oZ_neS, ↓oZ_neI, ↓oZ_lt, ↓oZ_le, ↓oZ_gt, ↓oZ_ge, ↓oZ_ixL, ↓oZ_ixT, ↓aI_0, ↓aI_1, ↓aI_2, ↓nI_0, ↓nI_1, ↓lS_0, ↓lS_s, ↓aI_int, ↓aI_str, ↓aI_row, ↓aI_b2, ↓aI_i1, ↓aI_i2, ↓aI_i3, ↓aI_i4, ↓aI_i5, ↓aI_i6, ↓oZ_abyz, ↓oZ_az, ↓cZ_lenLm, ↓cZ_lenTm, ↓cZ_lenP, ↓oZ_ixP, ↓sD_P, ↓cZ_lstP, ↓cZ_abs, ↓cZ_int, ↓cZ_intB, ↓cZ_tup, ↓cZ_lstL, ↓cZ_lstT, ↓cZ_all, ↓cZ_any, ↓cZ_max2, ↓cZ_min2, ↓cZ_sum, ↓cZ_sorted, ↓xE_int, ↓xE_bl, ↓xE_str, ↓xE_non, ↓xE_var, ↓xE_op, ↓xE_neg, ↓xE_nt, ↓xE_an, ↓xE_or, ↓xE_ch, ↓xE_isN, ↓xE_notN, ↓xE_ife, ↓xE_tup, ↓xE_lst, ↓xE_sl, ↓sl1_T, ↓sl1_L, ↓xE_cb, ↓xE_isa, ↓xE_call, ↓xE_callX, ↓xE_lget, ↓xE_srs, xE_revT, ↓xE_revL, ↓xE_sw, ↓s2D_s, ↓xB_sif, ↓xE_dget2, ↓xT_tl, ↓xI_ky, ↓xS_lk0, ↓xR_x, ↓xR_call, ↓xR_lst, ↓xR_e, ↓xB_ret, ↓xB_iff, ↓xS_tryK, ↓xS_never, ↓xS_mv0, ↓xS_aug, ↓eF_l, noF_nil, noF_dat, noF_no, noF_lst, noF_dK, ↓sK_j, ↓xE_callS, ↓xE_lc, ↓xE_lc2, ↓xE_callL, ↓rvA_d, ↓tw2_t, ↓sN_0, ↓sN_s, ↓xE_lrg, ↓xE_trg, ↓xE_pop, ↓xE_idxL, ↓sT_s, ↓xE_idxT, ↓xE_dget, ↓xE_din, ↓xE_dnin, ↓xE_dset, ↓xE_dspV, ↓xE_dspC, ↓xE_dspM, ↓tE_d, ↓xI_rng3, ↓xA_nil, ↓xA_cons, ↓xT_te, ↓xT_tb, ↓xT_nt, ↓xT_an, ↓xT_or, ↓xT_yes, ↓xT_lend, ↓xP_no, ↓xP_at, ↓xI_rng1, ↓xI_rng2, ↓xI_u, ↓xI_en, ↓xI_enl, ↓xG_nm, ↓xG_tup, ↓xGs_nil, ↓xGs_cons, ↓sV_d, ↓sV_n, ↓sV_w, ↓rV_d, ↓rV_n, ↓rV_w, ↓rV_o, ↓xS_set, ↓xS_asg, ↓xS_seti, ↓xS_app, ↓xS_newD, ↓xS_dput, ↓xS_drop, ↓xS_dropX, ↓xS_raise, ↓xS_tryC, ↓xS_ret, ↓xS_retN, ↓xS_iff, ↓xS_for, ↓xS_wh, ↓xS_brk, ↓xS_cont, ↓xS_nx, ↓xS_seq, ↓xS_fz, ↓fzK_l, ↓fzK_d, ↓fzK_n, ↓fzK_D, ↓kS_nx, ↓kS_rt, ↓kS_bk, ↓kS_ct, ↓out1_rt, ↓out2_rt, ↓xE_allIn, ↓xE_inC, ↓xE_isB, ↓strD_s, ↓xE_callT, ↓xE_callLam, ↓xE_xin, ↓xE_xget, ↓xE_xdc, ↓xE_xd1, ↓xE_srK, ↓xE_hasX, ↓xS_newX, ↓xS_xput, ↓eT_l, noF_dT, ↓lamV_d
, ↓xE_anyNe, ↓xI_zp, ↓zpD_t, ↓xS_asgXn, ↓xS_asgXt, ↓yV_d, ↓u_b_freer_1, ↓aI_ent, tn, ↓freer_entriesK, ↓oZ_ninL, inD_E, hb, Bool.not_false]
  rw [← en] at L
  have eq : ∀ (s t : List Entry), s.length = t.length → (List.range s.length).all (fun i => decide (s.getD i none ∈ frE (t.getD i none))) = frB s t := by
    intro s
    induction s with
    | nil => intro t h; cases t with
      | nil => rfl
      | cons _ _ => cases h
    | cons a s ih => intro t h; cases t with
      | nil => cases h
      | cons b t =>
        rw [List.length_cons, List.range_succ_eq_map, List.all_cons, List.all_map]
        unfold frB
        rw [← ih t (by simpa using h)]
        rfl
  rw [eq s t hl] at L
  rw [x_freer]
  have hz : (enD (s.map enE)).length < sizeLine := by rw [enD_len, List.length_map, sizeLine_eq]; omega
  unfold standD at *
  cases q : frB s t with
  | true =>
    rw [q, if_pos rfl] at L
    simp (config := { implicitDefEqProofs := false }) (disch := walk_at "side") only [↓reduceIte, decide_eq_true_eq, decide_true, decide_false, Bool.not_true, Bool.not_false, Bool.false_eq_true, Int.reduceEq, Int.reduceLT, Int.reduceLE, Int.reduceNeg, Int.reduceToNat, ↓okI, ↓okI2, ↓aV_d, ↓aV_o, ↓aV_n, ↓aV_w, ↓dV_d, ↓dV_wD, ↓aV_wD, ↓dO_d, ↓kV_w, ↓xE_dinD, ↓xE_dninD, ↓xE_dgetD, ↓xE_fnv, ↓xE_callF, ↓xE_callE, ↓xE_isaT, ↓xE_dspb, ↓xI_ukd, ↓xS_retD, ↓xS_fzD, ↓fzKD_D, ↓fzKD_d, ↓dV_n, ↓dV_w, ↓gE_0, ↓gE_s, ↓eL_l, ↓eD_l, ↓eV_d, ↓eV_l, ↓nA_d, ↓nA_o, ↓iD_i, ↓bD_b, ↓kD_i, ↓kD_s, ↓zD_d, ↓vZ_d, ↓vZ_n, ↓sR_0, ↓sR_s, ↓sK_n, ↓sK_0, ↓lD_l, ↓sD_l, ↓sD_t, ↓tD_t, ↓dA_nil, ↓dA_d, ↓dN_nil, ↓dN_c, ↓oZ_addI, ↓oZ_addS, ↓oZ_addT, ↓oZ_addL, ↓oZ_sub, ↓oZ_mul, ↓oZ_mulT, ↓oZ_mulL, ↓oZ_fdiv, ↓oZ_mod, ↓oZ_pow, ↓oZ_eqI, ↓oZ_eqS, ↓oZ_neS, ↓oZ_neI, ↓oZ_lt, ↓oZ_le, ↓oZ_gt, ↓oZ_ge, ↓oZ_ixL, ↓oZ_ixT, ↓aI_0, ↓aI_1, ↓aI_2, ↓nI_0, ↓nI_1, ↓lS_0, ↓lS_s, ↓aI_int, ↓aI_str, ↓aI_row, ↓aI_b2, ↓aI_i1, ↓aI_i2, ↓aI_i3, ↓aI_i4, ↓aI_i5, ↓aI_i6, ↓oZ_abyz, ↓oZ_az, ↓cZ_lenLm, ↓cZ_lenTm, ↓cZ_lenP, ↓oZ_ixP, ↓sD_P, ↓cZ_lstP, ↓cZ_abs, ↓cZ_int, ↓cZ_intB, ↓cZ_tup, ↓cZ_lstL, ↓cZ_lstT, ↓cZ_all, ↓cZ_any, ↓cZ_max2, ↓cZ_min2, ↓cZ_sum, ↓cZ_sorted, ↓xE_int, ↓xE_bl, ↓xE_str, ↓xE_non, ↓xE_var, ↓xE_op, ↓xE_neg, ↓xE_nt, ↓xE_an, ↓xE_or, ↓xE_ch, ↓xE_isN, ↓xE_notN, ↓xE_ife, ↓xE_tup, ↓xE_lst, ↓xE_sl, ↓sl1_T, ↓sl1_L, ↓xE_cb, ↓xE_isa, ↓xE_call, ↓xE_callX, ↓xE_lget, ↓xE_srs, xE_revT, ↓xE_revL, ↓xE_sw, ↓s2D_s, ↓xB_sif, ↓xE_dget2, ↓xT_tl, ↓xI_ky, ↓xS_lk0, ↓xR_x, ↓xR_call, ↓xR_lst, ↓xR_e, ↓xB_ret, ↓xB_iff, ↓xS_tryK, ↓xS_never, ↓xS_mv0, ↓xS_aug, ↓eF_l, noF_nil, noF_dat, noF_no, noF_lst, noF_dK, ↓sK_j, ↓xE_callS, ↓xE_lc, ↓xE_lc2, ↓xE_callL, ↓rvA_d, ↓tw2_t, ↓sN_0, ↓sN_s, ↓xE_lrg, ↓xE_trg, ↓xE_pop, ↓xE_idxL, ↓sT_s, ↓xE_idxT, ↓xE_dget, ↓xE_din, ↓xE_dnin, ↓xE_dset, ↓xE_dspV, ↓xE_dspC, ↓xE_dspM, ↓tE_d, ↓xI_rng3, ↓xA_nil, ↓xA_cons, ↓xT_te, ↓xT_tb, ↓xT_nt, ↓xT_an, ↓xT_or, ↓xT_yes, ↓xT_lend, ↓xP_no, ↓xP_at, ↓xI_rng1, ↓xI_rng2, ↓xI_u, ↓xI_en, ↓xI_enl, ↓xG_nm, ↓xG_tup, ↓xGs_nil, ↓xGs_cons, ↓sV_d, ↓sV_n, ↓sV_w, ↓rV_d, ↓rV_n, ↓rV_w, ↓rV_o, ↓xS_set, ↓xS_asg, ↓xS_seti, ↓xS_app, ↓xS_newD, ↓xS_dput, ↓xS_drop, ↓xS_dropX, ↓xS_raise, ↓xS_tryC, ↓xS_ret, ↓xS_retN, ↓xS_iff, ↓xS_for, ↓xS_wh, ↓xS_brk, ↓xS_cont, ↓xS_nx, ↓xS_seq, ↓xS_fz, ↓fzK_l, ↓fzK_d, ↓fzK_n, ↓fzK_D, ↓kS_nx, ↓kS_rt, ↓kS_bk, ↓kS_ct, ↓out1_rt, ↓out2_rt, ↓xE_allIn, ↓xE_inC, ↓xE_isB, ↓strD_s, ↓xE_callT, ↓xE_callLam, ↓xE_xin, ↓xE_xget, ↓xE_xdc, ↓xE_xd1, ↓xE_srK, ↓xE_hasX, ↓xS_newX, ↓xS_xput, ↓eT_l, noF_dT, ↓lamV_d
, ↓xE_anyNe, ↓xI_zp, ↓zpD_t, ↓xS_asgXn, ↓xS_asgXt, ↓yV_d, ↓u_c_freer, ↓fK_s L]
  | false =>
    rw [q, if_neg (by decide)] at L
    simp (config := { implicitDefEqProofs := false }) (disch := walk_at "side") only [↓reduceIte, decide_eq_true_eq, decide_true, decide_false, Bool.not_true, Bool.not_false, Bool.false_eq_true, Int.reduceEq, Int.reduceLT, Int.reduceLE, Int.reduceNeg, Int.reduceToNat, ↓okI, ↓okI2, ↓aV_d, ↓aV_o, ↓aV_n, ↓aV_w, ↓dV_d, ↓dV_wD, ↓aV_wD, ↓dO_d, ↓kV_w, ↓xE_dinD, ↓xE_dninD, ↓xE_dgetD, ↓xE_fnv, ↓xE_callF, ↓xE_callE, ↓xE_isaT, ↓xE_dspb, ↓xI_ukd, ↓xS_retD, ↓xS_fzD, ↓fzKD_D, ↓fzKD_d, ↓dV_n, ↓dV_w, ↓gE_0, ↓gE_s, ↓eL_l, ↓eD_l, ↓eV_d, ↓eV_l, ↓nA_d, ↓nA_o, ↓iD_i, ↓bD_b, ↓kD_i, ↓kD_s, ↓zD_d, ↓vZ_d, ↓vZ_n, ↓sR_0, ↓sR_s, ↓sK_n, ↓sK_0, ↓lD_l, ↓sD_l, ↓sD_t, ↓tD_t, ↓dA_nil, ↓dA_d, ↓dN_nil, ↓dN_c, ↓oZ_addI, ↓oZ_addS, ↓oZ_addT, ↓oZ_addL, ↓oZ_sub, ↓oZ_mul, ↓oZ_mulT, ↓oZ_mulL, ↓oZ_fdiv, ↓oZ_mod, ↓oZ_pow, ↓oZ_eqI, ↓oZ_eqS, ↓oZ_neS, ↓oZ_neI, ↓oZ_lt, ↓oZ_le, ↓oZ_gt, ↓oZ_ge, ↓oZ_ixL, ↓oZ_ixT, ↓aI_0, ↓aI_1, ↓aI_2, ↓nI_0, ↓nI_1, ↓lS_0, ↓lS_s, ↓aI_int, ↓aI_str, ↓aI_row, ↓aI_b2, ↓aI_i1, ↓aI_i2, ↓aI_i3, ↓aI_i4, ↓aI_i5, ↓aI_i6, ↓oZ_abyz, ↓oZ_az, ↓cZ_lenLm, ↓cZ_lenTm, ↓cZ_lenP, ↓oZ_ixP, ↓sD_P, ↓cZ_lstP, ↓cZ_abs, ↓cZ_int, ↓cZ_intB, ↓cZ_tup, ↓cZ_lstL, ↓cZ_lstT, ↓cZ_all, ↓cZ_any, ↓cZ_max2, ↓cZ_min2, ↓cZ_sum, ↓cZ_sorted, ↓xE_int, ↓xE_bl, ↓xE_str, ↓xE_non, ↓xE_var, ↓xE_op, ↓xE_neg, ↓xE_nt, ↓xE_an, ↓xE_or, ↓xE_ch, ↓xE_isN, ↓xE_notN, ↓xE_ife, ↓xE_tup, ↓xE_lst, ↓xE_sl, ↓sl1_T, ↓sl1_L, ↓xE_cb, ↓xE_isa, ↓xE_call, ↓xE_callX, ↓xE_lget, ↓xE_srs, xE_revT, ↓xE_revL, ↓xE_sw, ↓s2D_s, ↓xB_sif, ↓xE_dget2, ↓xT_tl, ↓xI_ky, ↓xS_lk0, ↓xR_x, ↓xR_call, ↓xR_lst, ↓xR_e, ↓xB_ret, ↓xB_iff, ↓xS_tryK, ↓xS_never, ↓xS_mv0, ↓xS_aug, ↓eF_l, noF_nil, noF_dat, noF_no, noF_lst, noF_dK, ↓sK_j, ↓xE_callS, ↓xE_lc, ↓xE_lc2, ↓xE_callL, ↓rvA_d, ↓tw2_t, ↓sN_0, ↓sN_s, ↓xE_lrg, ↓xE_trg, ↓xE_pop, ↓xE_idxL, ↓sT_s, ↓xE_idxT, ↓xE_dget, ↓xE_din, ↓xE_dnin, ↓xE_dset, ↓xE_dspV, ↓xE_dspC, ↓xE_dspM, ↓tE_d, ↓xI_rng3, ↓xA_nil, ↓xA_cons, ↓xT_te, ↓xT_tb, ↓xT_nt, ↓xT_an, ↓xT_or, ↓xT_yes, ↓xT_lend, ↓xP_no, ↓xP_at, ↓xI_rng1, ↓xI_rng2, ↓xI_u, ↓xI_en, ↓xI_enl, ↓xG_nm, ↓xG_tup, ↓xGs_nil, ↓xGs_cons, ↓sV_d, ↓sV_n, ↓sV_w, ↓rV_d, ↓rV_n, ↓rV_w, ↓rV_o, ↓xS_set, ↓xS_asg, ↓xS_seti, ↓xS_app, ↓xS_newD, ↓xS_dput, ↓xS_drop, ↓xS_dropX, ↓xS_raise, ↓xS_tryC, ↓xS_ret, ↓xS_retN, ↓xS_iff, ↓xS_for, ↓xS_wh, ↓xS_brk, ↓xS_cont, ↓xS_nx, ↓xS_seq, ↓xS_fz, ↓fzK_l, ↓fzK_d, ↓fzK_n, ↓fzK_D, ↓kS_nx, ↓kS_rt, ↓kS_bk, ↓kS_ct, ↓out1_rt, ↓out2_rt, ↓xE_allIn, ↓xE_inC, ↓xE_isB, ↓strD_s, ↓xE_callT, ↓xE_callLam, ↓xE_xin, ↓xE_xget, ↓xE_xdc, ↓xE_xd1, ↓xE_srK, ↓xE_hasX, ↓xS_newX, ↓xS_xput, ↓eT_l, noF_dT, ↓lamV_d
, ↓xE_anyNe, ↓xI_zp, ↓zpD_t, ↓xS_asgXn, ↓xS_asgXt, ↓yV_d, ↓u_c_freer, ↓fK_s L]
def lfE (a b : Entry) : Bool := match a, b with
  | none, _ => true
  | some _, none => false
  | some (v, u), some (v', u') => decide (v = v') && (decide (u = -1) || decide (u = u'))
theorem lfE_eq (a b : Entry) : lfE a b = decide (a ∈ frE b) := by
  rw [Bool.eq_iff_iff, decide_eq_true_eq, fr_mem]
  cases a with
  | none => simp [lfE]
  | some p =>
    obtain ⟨v, u⟩ := p
    cases b with
    | none => simp [lfE]
    | some q =>
      obtain ⟨v', u'⟩ := q
      simp only [lfE, Bool.and_eq_true, Bool.or_eq_true, decide_eq_true_eq]
      constructor
      · rintro ⟨h1, h2⟩
        exact .inr ⟨v, u, u', rfl, by rw [h1], h2⟩
      · rintro (h | ⟨w, x, y, h1, h2, h3⟩)
        · cases h
        · cases h1; cases h2; exact ⟨rfl, h3⟩
theorem oZ_nin2 {β : Type} {u u' : Int} {kz : Rz → Option β} : oZ .notIn (.int u) (.list [.int (-1), .int u']) kz = kz (.d (.bool (!(decide (u = -1) || decide (u = u'))))) := by
  have h : inD (.int u) ([-1, u'].map PyData.int) = (decide (u = -1) || decide (u = u')) := by
    rw [inD_ints]
    simp [List.mem_cons]
  have h2 : inD (.int u) [.int (-1), .int u'] = (decide (u = -1) || decide (u = u')) := h
  rw [oZ_ninL rfl rfl, h2]
theorem len_0 {β : Type} {kz : Rz → Option β} : cZ .len [.tuple []] kz = kz (.d (.int 0)) := rfl
theorem len_2 {β : Type} {a b : D} {kz : Rz → Option β} : cZ .len [.tuple [a, b]] kz = kz (.d (.int 2)) := rfl
theorem l_freer_eq {s t : List Entry} (hl : s.length = t.length) (h4 : t.length ≤ 4) : f_l_freer [standD s, standD t] = some (.dat (.bool (frB s t))) := by
  have en : rgD 0 s.length = (List.range s.length).map fun i : Nat => PyData.int (i : Int) := by
    unfold rgD
    exact List.map_congr_left fun i _ => by rw [Int.zero_add]
  obtain ⟨ρ3, ⟨e2, rfl⟩, L⟩ := for_allO (f := trn [] (.nm 2) b_l_freer_1) (fun i : Nat => PyData.int (i : Nat)) (fun ρ => ∃ e2, ρ = [.dat (standD s), .dat (standD t), e2]) (fun i => decide (s.getD i none ∈ frE (t.getD i none))) (r := .dat (.bool false)) (l := List.range s.length) (ρ := [.dat (standD s), .dat (standD t), .no]) ⟨_, rfl⟩ fun i m ρ ⟨e2, hρ⟩ => by
    subst hρ
    have hi := List.mem_range.mp m
    have i0 : (0 : Int) ≤ ((i : Nat) : Int) := by omega
    have i1 : ((i : Nat) : Int) < ((t.length : Nat) : Int) := by omega
    have i2 : ((i : Nat) : Int) < ((s.length : Nat) : Int) := by omega
    have tn : ((i : Nat) : Int).toNat = i := by omega
    refine ⟨[.dat (standD s), .dat (standD t), .dat (.int (i : Nat))], ⟨_, rfl⟩, ?_⟩
    rw [trn_x, ← lfE_eq]
    have A1 : ∀ {β : Type} (kd : D → Option β), aI (s.map enE) (i : Nat) kd = kd (enE (s.getD i none)) := fun kd => aI_ent i0 i2
    have A2 : ∀ {β : Type} (kd : D → Option β), aI (t.map enE) (i : Nat) kd = kd (enE (t.getD i none)) := fun kd => aI_ent i0 i1
    unfold standD at *
    generalize s.getD i none = a at *
    generalize t.getD i none = b at *
    cases a with
    | none => simp (config := { implicitDefEqProofs := false }) (disch := walk_at "side") only [↓reduceIte, decide_eq_true_eq, decide_true, decide_false, Bool.not_true, Bool.not_false, Bool.false_eq_true, Int.reduceEq, Int.reduceLT, Int.reduceLE, Int.reduceNeg, Int.reduceToNat, ↓okI, ↓okI2, ↓aV_d, ↓aV_o, ↓aV_n, ↓aV_w, ↓dV_d, ↓dV_wD, ↓aV_wD, ↓dO_d, ↓kV_w, ↓xE_dinD, ↓xE_dninD, ↓xE_dgetD, ↓xE_fnv, ↓xE_callF, ↓xE_callE, ↓xE_isaT, ↓xE_dspb, ↓xI_ukd, ↓xS_retD, ↓xS_fzD, ↓fzKD_D, ↓fzKD_d, ↓dV_n, ↓dV_w, ↓gE_0, ↓gE_s, ↓eL_l, ↓eD_l, ↓eV_d, ↓eV_l, ↓nA_d, ↓nA_o, ↓iD_i, ↓bD_b, ↓kD_i, ↓kD_s, ↓zD_d, ↓vZ_d, ↓vZ_n, ↓sR_0, ↓sR_s, ↓sK_n, ↓sK_0, ↓lD_l, ↓sD_l, ↓sD_t, ↓tD_t, ↓dA_nil, ↓dA_d, ↓dN_nil, ↓dN_c, ↓oZ_addI, ↓oZ_addS, ↓oZ_addT, ↓oZ_addL, ↓oZ_sub, ↓oZ_mul, ↓oZ_mulT, ↓oZ_mulL, ↓oZ_fdiv, ↓oZ_mod, ↓oZ_pow, ↓oZ_eqI, ↓oZ_eqS, ↓oZ_neS, ↓oZ_neI, ↓oZ_lt, ↓oZ_le, ↓oZ_gt, ↓oZ_ge, ↓oZ_ixL, ↓oZ_ixT, ↓aI_0, ↓aI_1, ↓aI_2, ↓nI_0, ↓nI_1, ↓lS_0, ↓lS_s, ↓aI_int, ↓aI_str, ↓aI_row, ↓aI_b2, ↓aI_i1, ↓aI_i2, ↓aI_i3, ↓aI_i4, ↓aI_i5, ↓aI_i6, ↓oZ_abyz, ↓oZ_az, ↓cZ_lenLm, ↓cZ_lenTm, ↓cZ_lenP, ↓oZ_ixP, ↓sD_P, ↓cZ_lstP, ↓cZ_abs, ↓cZ_int, ↓cZ_intB, ↓cZ_tup, ↓cZ_lstL, ↓cZ_lstT, ↓cZ_all, ↓cZ_any, ↓cZ_max2, ↓cZ_min2, ↓cZ_sum, ↓cZ_sorted, ↓xE_int, ↓xE_bl, ↓xE_str, ↓xE_non, ↓xE_var, ↓xE_op, ↓xE_neg, ↓xE_nt, ↓xE_an, ↓xE_or, ↓xE_ch, ↓xE_isN, ↓xE_notN, ↓xE_ife, ↓xE_tup, ↓xE_lst, ↓xE_sl, ↓sl1_T, ↓sl1_L, ↓xE_cb, ↓xE_isa, ↓xE_call, ↓xE_callX, ↓xE_lget, ↓xE_srs, xE_revT, ↓xE_revL, ↓xE_sw, ↓s2D_s, ↓xB_sif, ↓xE_dget2, ↓xT_tl, ↓xI_ky, ↓xS_lk0, ↓xR_x, ↓xR_call, ↓xR_lst, ↓xR_e, ↓xB_ret, ↓xB_iff, ↓xS_tryK, ↓xS_never, ↓xS_mv0, ↓xS_aug, ↓eF_l, noF_nil, noF_dat, noF_no, noF_lst, noF_dK, ↓sK_j, ↓xE_callS, ↓xE_lc, ↓xE_lc2, ↓xE_callL, ↓rvA_d, ↓tw2_t, ↓sN_0, ↓sN_s, ↓xE_lrg, ↓xE_trg, ↓xE_pop, ↓xE_idxL, ↓sT_s, ↓xE_idxT, ↓xE_dget, ↓xE_din, ↓xE_dnin, ↓xE_dset, ↓xE_dspV, ↓xE_dspC, ↓xE_dspM, ↓tE_d, ↓xI_rng3, ↓xA_nil, ↓xA_cons, ↓xT_te, ↓xT_tb, ↓xT_nt, ↓xT_an, ↓xT_or, ↓xT_yes, ↓xT_lend, ↓xP_no, ↓xP_at, ↓xI_rng1, ↓xI_rng2, ↓xI_u, ↓xI_en, ↓xI_enl, ↓xG_nm, ↓xG_tup, ↓xGs_nil, ↓xGs_cons, ↓sV_d, ↓sV_n, ↓sV_w, ↓rV_d, ↓rV_n, ↓rV_w, ↓rV_o, ↓xS_set, ↓xS_asg, ↓xS_seti, ↓xS_app, ↓xS_newD, ↓xS_dput, ↓xS_drop, ↓xS_dropX, ↓xS_raise, ↓xS_tryC, ↓xS_ret, ↓xS_retN, ↓xS_iff, ↓xS_for, ↓xS_wh, ↓xS_brk, ↓xS_cont, ↓xS_nx, ↓xS_seq, ↓xS_fz, ↓fzK_l, ↓fzK_d, ↓fzK_n, ↓fzK_D, ↓kS_nx, ↓kS_rt, ↓kS_bk, ↓kS_ct, ↓out1_rt, ↓out2_rt, ↓xE_allIn, ↓xE_inC, ↓xE_isB, ↓strD_s, ↓xE_callT, ↓xE_callLam, ↓xE_xin, ↓xE_xget, ↓xE_xdc, ↓xE_xd1, ↓xE_srK, ↓xE_hasX, ↓xS_newX, ↓xS_xput, ↓eT_l, noF_dT, ↓lamV_d
, ↓xE_anyNe, ↓xI_zp, ↓zpD_t, ↓xS_asgXn, ↓xS_asgXt, ↓yV_d, ↓u_b_l_freer_1, ↓A1, ↓A2, enE, ↓len_0, ↓len_2, lfE, Bool.false_eq_true]
    | some p =>
      obtain ⟨v, u⟩ := p
      cases b with
      | none => simp (config := { implicitDefEqProofs := false }) (disch := walk_at "side") only [↓reduceIte, decide_eq_true_eq, decide_true, decide_false, Bool.not_true, Bool.not_false, Bool.false_eq_true, Int.reduceEq, Int.reduceLT, Int.reduceLE, Int.reduceNeg, Int.reduceToNat, ↓okI, ↓okI2, ↓aV_d, ↓aV_o, ↓aV_n, ↓aV_w, ↓dV_d, ↓dV_wD, ↓aV_wD, ↓dO_d, ↓kV_w, ↓xE_dinD, ↓xE_dninD, ↓xE_dgetD, ↓xE_fnv, ↓xE_callF, ↓xE_callE, ↓xE_isaT, ↓xE_dspb, ↓xI_ukd, ↓xS_retD, ↓xS_fzD, ↓fzKD_D, ↓fzKD_d, ↓dV_n, ↓dV_w, ↓gE_0, ↓gE_s, ↓eL_l, ↓eD_l, ↓eV_d, ↓eV_l, ↓nA_d, ↓nA_o, ↓iD_i, ↓bD_b, ↓kD_i, ↓kD_s, ↓zD_d, ↓vZ_d, ↓vZ_n, ↓sR_0, ↓sR_s, ↓sK_n, ↓sK_0, ↓lD_l, ↓sD_l, ↓sD_t, ↓tD_t, ↓dA_nil, ↓dA_d, ↓dN_nil, ↓dN_c, ↓oZ_addI, ↓oZ_addS, ↓oZ_addT, ↓oZ_addL, ↓oZ_sub, ↓oZ_mul, ↓oZ_mulT, ↓oZ_mulL, ↓oZ_fdiv, ↓oZ_mod, ↓oZ_pow, ↓oZ_eqI, ↓oZ_eqS, ↓oZ_neS, ↓oZ_neI, ↓oZ_lt, ↓oZ_le, ↓oZ_gt, ↓oZ_ge, ↓oZ_ixL, ↓oZ_ixT, ↓aI_0, ↓aI_1, ↓aI_2, ↓nI_0, ↓nI_1, ↓lS_0, ↓lS_s, ↓aI_int, ↓aI_str, ↓aI_row, ↓aI_b2, ↓aI_i1, ↓aI_i2, ↓aI_i3, ↓aI_i4, ↓aI_i5, ↓aI_i6, ↓oZ_abyz, ↓oZ_az, ↓cZ_lenLm, ↓cZ_lenTm, ↓cZ_lenP, ↓oZ_ixP, ↓sD_P, ↓cZ_lstP, ↓cZ_abs, ↓cZ_int, ↓cZ_intB, ↓cZ_tup, ↓cZ_lstL, ↓cZ_lstT, ↓cZ_all, ↓cZ_any, ↓cZ_max2, ↓cZ_min2, ↓cZ_sum, ↓cZ_sorted, ↓xE_int, ↓xE_bl, ↓xE_str, ↓xE_non, ↓xE_var, ↓xE_op, ↓xE_neg, ↓xE_nt, ↓xE_an, ↓xE_or, ↓xE_ch, ↓xE_isN, ↓xE_notN, ↓xE_ife, ↓xE_tup, ↓xE_lst, ↓xE_sl, ↓sl1_T, ↓sl1_L, ↓xE_cb, ↓xE_isa, ↓xE_call, ↓xE_callX, ↓xE_lget, ↓xE_srs, xE_revT, ↓xE_revL, ↓xE_sw, ↓s2D_s, ↓xB_sif, ↓xE_dget2, ↓xT_tl, ↓xI_ky, ↓xS_lk0, ↓xR_x, ↓xR_call, ↓xR_lst, ↓xR_e, ↓xB_ret, ↓xB_iff, ↓xS_tryK, ↓xS_never, ↓xS_mv0, ↓xS_aug, ↓eF_l, noF_nil, noF_dat, noF_no, noF_lst, noF_dK, ↓sK_j, ↓xE_callS, ↓xE_lc, ↓xE_lc2, ↓xE_callL, ↓rvA_d, ↓tw2_t, ↓sN_0, ↓sN_s, ↓xE_lrg, ↓xE_trg, ↓xE_pop, ↓xE_idxL, ↓sT_s, ↓xE_idxT, ↓xE_dget, ↓xE_din, ↓xE_dnin, ↓xE_dset, ↓xE_dspV, ↓xE_dspC, ↓xE_dspM, ↓tE_d, ↓xI_rng3, ↓xA_nil, ↓xA_cons, ↓xT_te, ↓xT_tb, ↓xT_nt, ↓xT_an, ↓xT_or, ↓xT_yes, ↓xT_lend, ↓xP_no, ↓xP_at, ↓xI_rng1, ↓xI_rng2, ↓xI_u, ↓xI_en, ↓xI_enl, ↓xG_nm, ↓xG_tup, ↓xGs_nil, ↓xGs_cons, ↓sV_d, ↓sV_n, ↓sV_w, ↓rV_d, ↓rV_n, ↓rV_w, ↓rV_o, ↓xS_set, ↓xS_asg, ↓xS_seti, ↓xS_app, ↓xS_newD, ↓xS_dput, ↓xS_drop, ↓xS_dropX, ↓xS_raise, ↓xS_tryC, ↓xS_ret, ↓xS_retN, ↓xS_iff, ↓xS_for, ↓xS_wh, ↓xS_brk, ↓xS_cont, ↓xS_nx, ↓xS_seq, ↓xS_fz, ↓fzK_l, ↓fzK_d, ↓fzK_n, ↓fzK_D, ↓kS_nx, ↓kS_rt, ↓kS_bk, ↓kS_ct, ↓out1_rt, ↓out2_rt, ↓xE_allIn, ↓xE_inC, ↓xE_isB, ↓strD_s, ↓xE_callT, ↓xE_callLam, ↓xE_xin, ↓xE_xget, ↓xE_xdc, ↓xE_xd1, ↓xE_srK, ↓xE_hasX, ↓xS_newX, ↓xS_xput, ↓eT_l, noF_dT, ↓lamV_d
, ↓xE_anyNe, ↓xI_zp, ↓zpD_t, ↓xS_asgXn, ↓xS_asgXt, ↓yV_d, ↓u_b_l_freer_1, ↓A1, ↓A2, enE, ↓len_0, ↓len_2, lfE, Bool.false_eq_true]
      | some q =>
        obtain ⟨v', u'⟩ := q
        have l1 : ([PyData.int v, PyData.int u]).length = 2 := rfl
        by_cases hv : v = v'
        · have dv := decide_eq_true hv
          cases hb : (decide (u = -1) || decide (u = u')) with
          | true => simp (config := { implicitDefEqProofs := false }) (disch := walk_at "side") only [↓reduceIte, decide_eq_true_eq, decide_true, decide_false, Bool.not_true, Bool.not_false, Bool.false_eq_true, Int.reduceEq, Int.reduceLT, Int.reduceLE, Int.reduceNeg, Int.reduceToNat, ↓okI, ↓okI2, ↓aV_d, ↓aV_o, ↓aV_n, ↓aV_w, ↓dV_d, ↓dV_wD, ↓aV_wD, ↓dO_d, ↓kV_w, ↓xE_dinD, ↓xE_dninD, ↓xE_dgetD, ↓xE_fnv, ↓xE_callF, ↓xE_callE, ↓xE_isaT, ↓xE_dspb, ↓xI_ukd, ↓xS_retD, ↓xS_fzD, ↓fzKD_D, ↓fzKD_d, ↓dV_n, ↓dV_w, ↓gE_0, ↓gE_s, ↓eL_l, ↓eD_l, ↓eV_d, ↓eV_l, ↓nA_d, ↓nA_o, ↓iD_i, ↓bD_b, ↓kD_i, ↓kD_s, ↓zD_d, ↓vZ_d, ↓vZ_n, ↓sR_0, ↓sR_s, ↓sK_n, ↓sK_0, ↓lD_l, ↓sD_l, ↓sD_t, ↓tD_t, ↓dA_nil, ↓dA_d, ↓dN_nil, ↓dN_c, ↓oZ_addI, ↓oZ_addS, ↓oZ_addT, ↓oZ_addL, ↓oZ_sub, ↓oZ_mul, ↓oZ_mulT, ↓oZ_mulL, ↓oZ_fdiv, ↓oZ_mod, ↓oZ_pow, ↓oZ_eqI, ↓oZ_eqS, ↓oZ_neS, ↓oZ_neI, ↓oZ_lt, ↓oZ_le, ↓oZ_gt, ↓oZ_ge, ↓oZ_ixL, ↓oZ_ixT, ↓aI_0, ↓aI_1, ↓aI_2, ↓nI_0, ↓nI_1, ↓lS_0, ↓lS_s, ↓aI_int, ↓aI_str, ↓aI_row, ↓aI_b2, ↓aI_i1, ↓aI_i2, ↓aI_i3, ↓aI_i4, ↓aI_i5, ↓aI_i6, ↓oZ_abyz, ↓oZ_az, ↓cZ_lenLm, ↓cZ_lenTm, ↓cZ_lenP, ↓oZ_ixP, ↓sD_P, ↓cZ_lstP, ↓cZ_abs, ↓cZ_int, ↓cZ_intB, ↓cZ_tup, ↓cZ_lstL, ↓cZ_lstT, ↓cZ_all, ↓cZ_any, ↓cZ_max2, ↓cZ_min2, ↓cZ_sum, ↓cZ_sorted, ↓xE_int, ↓xE_bl, ↓xE_str, ↓xE_non, ↓xE_var, ↓xE_op, ↓xE_neg, ↓xE_nt, ↓xE_an, ↓xE_or, ↓xE_ch, ↓xE_isN, ↓xE_notN, ↓xE_ife, ↓xE_tup, ↓xE_lst, ↓xE_sl, ↓sl1_T, ↓sl1_L, ↓xE_cb, ↓xE_isa, ↓xE_call, ↓xE_callX, ↓xE_lget, ↓xE_srs, xE_revT, ↓xE_revL, ↓xE_sw, ↓s2D_s, ↓xB_sif, ↓xE_dget2, ↓xT_tl, ↓xI_ky, ↓xS_lk0, ↓xR_x, ↓xR_call, ↓xR_lst, ↓xR_e, ↓xB_ret, ↓xB_iff, ↓xS_tryK, ↓xS_never, ↓xS_mv0, ↓xS_aug, ↓eF_l, noF_nil, noF_dat, noF_no, noF_lst, noF_dK, ↓sK_j, ↓xE_callS, ↓xE_lc, ↓xE_lc2, ↓xE_callL, ↓rvA_d, ↓tw2_t, ↓sN_0, ↓sN_s, ↓xE_lrg, ↓xE_trg, ↓xE_pop, ↓xE_idxL, ↓sT_s, ↓xE_idxT, ↓xE_dget, ↓xE_din, ↓xE_dnin, ↓xE_dset, ↓xE_dspV, ↓xE_dspC, ↓xE_dspM, ↓tE_d, ↓xI_rng3, ↓xA_nil, ↓xA_cons, ↓xT_te, ↓xT_tb, ↓xT_nt, ↓xT_an, ↓xT_or, ↓xT_yes, ↓xT_lend, ↓xP_no, ↓xP_at, ↓xI_rng1, ↓xI_rng2, ↓xI_u, ↓xI_en, ↓xI_enl, ↓xG_nm, ↓xG_tup, ↓xGs_nil, ↓xGs_cons, ↓sV_d, ↓sV_n, ↓sV_w, ↓rV_d, ↓rV_n, ↓rV_w, ↓rV_o, ↓xS_set, ↓xS_asg, ↓xS_seti, ↓xS_app, ↓xS_newD, ↓xS_dput, ↓xS_drop, ↓xS_dropX, ↓xS_raise, ↓xS_tryC, ↓xS_ret, ↓xS_retN, ↓xS_iff, ↓xS_for, ↓xS_wh, ↓xS_brk, ↓xS_cont, ↓xS_nx, ↓xS_seq, ↓xS_fz, ↓fzK_l, ↓fzK_d, ↓fzK_n, ↓fzK_D, ↓kS_nx, ↓kS_rt, ↓kS_bk, ↓kS_ct, ↓out1_rt, ↓out2_rt, ↓xE_allIn, ↓xE_inC, ↓xE_isB, ↓strD_s, ↓xE_callT, ↓xE_callLam, ↓xE_xin, ↓xE_xget, ↓xE_xdc, ↓xE_xd1, ↓xE_srK, ↓xE_hasX, ↓xS_newX, ↓xS_xput, ↓eT_l, noF_dT, ↓lamV_d
, ↓xE_anyNe, ↓xI_zp, ↓zpD_t, ↓xS_asgXn, ↓xS_asgXt, ↓yV_d, ↓u_b_l_freer_1, ↓A1, ↓A2, enE, ↓len_0, ↓len_2, lfE, Bool.false_eq_true, dv, ↓oZ_nin2, hb, Bool.not_true, Bool.and_self]
          | false => simp (config := { implicitDefEqProofs := false }) (disch := walk_at "side") only [↓reduceIte, decide_eq_true_eq, decide_true, decide_false, Bool.not_true, Bool.not_false, Bool.false_eq_true, Int.reduceEq, Int.reduceLT, Int.reduceLE, Int.reduceNeg, Int.reduceToNat, ↓okI, ↓okI2, ↓aV_d, ↓aV_o, ↓aV_n, ↓aV_w, ↓dV_d, ↓dV_wD, ↓aV_wD, ↓dO_d, ↓kV_w, ↓xE_dinD, ↓xE_dninD, ↓xE_dgetD, ↓xE_fnv, ↓xE_callF, ↓xE_callE, ↓xE_isaT, ↓xE_dspb, ↓xI_ukd, ↓xS_retD, ↓xS_fzD, ↓fzKD_D, ↓fzKD_d, ↓dV_n, ↓dV_w, ↓gE_0, ↓gE_s, ↓eL_l, ↓eD_l, ↓eV_d, ↓eV_l, ↓nA_d, ↓nA_o, ↓iD_i, ↓bD_b, ↓kD_i, ↓kD_s, ↓zD_d, ↓vZ_d, ↓vZ_n, ↓sR_0, ↓sR_s, ↓sK_n, ↓sK_0, ↓lD_l, ↓sD_l, ↓sD_t, ↓tD_t, ↓dA_nil, ↓dA_d, ↓dN_nil, ↓dN_c, ↓oZ_addI, ↓oZ_addS, ↓oZ_addT, ↓oZ_addL, ↓oZ_sub, ↓oZ_mul, ↓oZ_mulT, ↓oZ_mulL, ↓oZ_fdiv, ↓oZ_mod, ↓oZ_pow, ↓oZ_eqI, ↓oZ_eqS, ↓oZ_neS, ↓oZ_neI, ↓oZ_lt, ↓oZ_le, ↓oZ_gt, ↓oZ_ge, ↓oZ_ixL, ↓oZ_ixT, ↓aI_0, ↓aI_1, ↓aI_2, ↓nI_0, ↓nI_1, ↓lS_0, ↓lS_s, ↓aI_int, ↓aI_str, ↓aI_row, ↓aI_b2, ↓aI_i1, ↓aI_i2, ↓aI_i3, ↓aI_i4, ↓aI_i5, ↓aI_i6, ↓oZ_abyz, ↓oZ_az, ↓cZ_lenLm, ↓cZ_lenTm, ↓cZ_lenP, ↓oZ_ixP, ↓sD_P, ↓cZ_lstP, ↓cZ_abs, ↓cZ_int, ↓cZ_intB, ↓cZ_tup, ↓cZ_lstL, ↓cZ_lstT, ↓cZ_all, ↓cZ_any, ↓cZ_max2, ↓cZ_min2, ↓cZ_sum, ↓cZ_sorted, ↓xE_int, ↓xE_bl, ↓xE_str, ↓xE_non, ↓xE_var, ↓xE_op, ↓xE_neg, ↓xE_nt, ↓xE_an, ↓xE_or, ↓xE_ch, ↓xE_isN, ↓xE_notN, ↓xE_ife, ↓xE_tup, ↓xE_lst, ↓xE_sl, ↓sl1_T, ↓sl1_L, ↓xE_cb, ↓xE_isa, ↓xE_call, ↓xE_callX, ↓xE_lget, ↓xE_srs, xE_revT, ↓xE_revL, ↓xE_sw, ↓s2D_s, ↓xB_sif, ↓xE_dget2, ↓xT_tl, ↓xI_ky, ↓xS_lk0, ↓xR_x, ↓xR_call, ↓xR_lst, ↓xR_e, ↓xB_ret, ↓xB_iff, ↓xS_tryK, ↓xS_never, ↓xS_mv0, ↓xS_aug, ↓eF_l, noF_nil, noF_dat, noF_no, noF_lst, noF_dK, ↓sK_j, ↓xE_callS, ↓xE_lc, ↓xE_lc2, ↓xE_callL, ↓rvA_d, ↓tw2_t, ↓sN_0, ↓sN_s, ↓xE_lrg, ↓xE_trg, ↓xE_pop, ↓xE_idxL, ↓sT_s, ↓xE_idxT, ↓xE_dget, ↓xE_din, ↓xE_dnin, ↓xE_dset, ↓xE_dspV, ↓xE_dspC, ↓xE_dspM, ↓tE_d, ↓xI_rng3, ↓xA_nil, ↓xA_cons, ↓xT_te, ↓xT_tb, ↓xT_nt, ↓xT_an, ↓xT_or, ↓xT_yes, ↓xT_lend, ↓xP_no, ↓xP_at, ↓xI_rng1, ↓xI_rng2, ↓xI_u, ↓xI_en, ↓xI_enl, ↓xG_nm, ↓xG_tup, ↓xGs_nil, ↓xGs_cons, ↓sV_d, ↓sV_n, ↓sV_w, ↓rV_d, ↓rV_n, ↓rV_w, ↓rV_o, ↓xS_set, ↓xS_asg, ↓xS_seti, ↓xS_app, ↓xS_newD, ↓xS_dput, ↓xS_drop, ↓xS_dropX, ↓xS_raise, ↓xS_tryC, ↓xS_ret, ↓xS_retN, ↓xS_iff, ↓xS_for, ↓xS_wh, ↓xS_brk, ↓xS_cont, ↓xS_nx, ↓xS_seq, ↓xS_fz, ↓fzK_l, ↓fzK_d, ↓fzK_n, ↓fzK_D, ↓kS_nx, ↓kS_rt, ↓kS_bk, ↓kS_ct, ↓out1_rt, ↓out2_rt, ↓xE_allIn, ↓xE_inC, ↓xE_isB, ↓strD_s, ↓xE_callT, ↓xE_callLam, ↓xE_xin, ↓xE_xget, ↓xE_xdc, ↓xE_xd1, ↓xE_srK, ↓xE_hasX, ↓xS_newX, ↓xS_xput, ↓eT_l, noF_dT, ↓lamV_d
, ↓xE_anyNe, ↓xI_zp, ↓zpD_t, ↓xS_asgXn, ↓xS_asgXt, ↓yV_d, ↓u_b_l_freer_1, ↓A1, ↓A2, enE, ↓len_0, ↓len_2, lfE, Bool.false_eq_true, dv, ↓oZ_nin2, hb, Bool.not_true, Bool.not_false, Bool.and_false]
        · have dv := decide_eq_false hv
          simp (config := { implicitDefEqProofs := false }) (disch := walk_at "side") only [↓reduceIte, decide_eq_true_eq, decide_true, decide_false, Bool.not_true, Bool.not_false, Bool.false_eq_true, Int.reduceEq, Int.reduceLT, Int.reduceLE, Int.reduceNeg, Int.reduceToNat, ↓okI, ↓okI2, ↓aV_d, ↓aV_o, ↓aV_n, ↓aV_w, ↓dV_d, ↓dV_wD, ↓aV_wD, ↓dO_d, ↓kV_w, ↓xE_dinD, ↓xE_dninD, ↓xE_dgetD, ↓xE_fnv, ↓xE_callF, ↓xE_callE, ↓xE_isaT, ↓xE_dspb, ↓xI_ukd, ↓xS_retD, ↓xS_fzD, ↓fzKD_D, ↓fzKD_d, ↓dV_n, ↓dV_w, ↓gE_0, ↓gE_s, ↓eL_l, ↓eD_l, ↓eV_d, ↓eV_l, ↓nA_d, ↓nA_o, ↓iD_i, ↓bD_b, ↓kD_i, ↓kD_s, ↓zD_d, ↓vZ_d, ↓vZ_n, ↓sR_0, ↓sR_s, ↓sK_n, ↓sK_0, ↓lD_l, ↓sD_l, ↓sD_t, ↓tD_t, ↓dA_nil, ↓dA_d, ↓dN_nil, ↓dN_c, ↓oZ_addI, ↓oZ_addS, ↓oZ_addT, ↓oZ_addL, ↓oZ_sub, ↓oZ_mul, ↓oZ_mulT, ↓oZ_mulL, ↓oZ_fdiv, ↓oZ_mod, ↓oZ_pow, ↓oZ_eqI, ↓oZ_eqS, ↓oZ_neS, ↓oZ_neI, ↓oZ_lt, ↓oZ_le, ↓oZ_gt, ↓oZ_ge, ↓oZ_ixL, ↓oZ_ixT, ↓aI_0, ↓aI_1, ↓aI_2, ↓nI_0, ↓nI_1, ↓lS_0, ↓lS_s, ↓aI_int, ↓aI_str, ↓aI_row, ↓aI_b2, ↓aI_i1, ↓aI_i2, ↓aI_i3, ↓aI_i4, ↓aI_i5, ↓aI_i6, ↓oZ_abyz, ↓oZ_az, ↓cZ_lenLm, ↓cZ_lenTm, ↓cZ_lenP, ↓oZ_ixP, ↓sD_P, ↓cZ_lstP, ↓cZ_abs, ↓cZ_int, ↓cZ_intB, ↓cZ_tup, ↓cZ_lstL, ↓cZ_lstT, ↓cZ_all, ↓cZ_any, ↓cZ_max2, ↓cZ_min2, ↓cZ_sum, ↓cZ_sorted, ↓xE_int, ↓xE_bl, ↓xE_str, ↓xE_non, ↓xE_var, ↓xE_op, ↓xE_neg, ↓xE_nt, ↓xE_an, ↓xE_or, ↓xE_ch, ↓xE_isN, ↓xE_notN, ↓xE_ife, ↓xE_tup, ↓xE_lst, ↓xE_sl, ↓sl1_T, ↓sl1_L, ↓xE_cb, ↓xE_isa, ↓xE_call, ↓xE_callX, ↓xE_lget, ↓xE_srs, xE_revT, ↓xE_revL, ↓xE_sw, ↓s2D_s, ↓xB_sif, ↓xE_dget2, ↓xT_tl, ↓xI_ky, ↓xS_lk0, ↓xR_x, ↓xR_call, ↓xR_lst, ↓xR_e, ↓xB_ret, ↓xB_iff, ↓xS_tryK, ↓xS_never, ↓xS_mv0, ↓xS_aug, ↓eF_l, noF_nil, noF_dat, noF_no, noF_lst, noF_dK, ↓sK_j, ↓xE_callS, ↓xE_lc, ↓xE_lc2, ↓xE_callL, ↓rvA_d, ↓tw2_t, ↓sN_0, ↓sN_s, ↓xE_lrg, ↓xE_trg, ↓xE_pop, ↓xE_idxL, ↓sT_s, ↓xE_idxT, ↓xE_dget, ↓xE_din, ↓xE_dnin, ↓xE_dset, ↓xE_dspV, ↓xE_dspC, ↓xE_dspM, ↓tE_d, ↓xI_rng3, ↓xA_nil, ↓xA_cons, ↓xT_te, ↓xT_tb, ↓xT_nt, ↓xT_an, ↓xT_or, ↓xT_yes, ↓xT_lend, ↓xP_no, ↓xP_at, ↓xI_rng1, ↓xI_rng2, ↓xI_u, ↓xI_en, ↓xI_enl, ↓xG_nm, ↓xG_tup, ↓xGs_nil, ↓xGs_cons, ↓sV_d, ↓sV_n, ↓sV_w, ↓rV_d, ↓rV_n, ↓rV_w, ↓rV_o, ↓xS_set, ↓xS_asg, ↓xS_seti, ↓xS_app, ↓xS_newD, ↓xS_dput, ↓xS_drop, ↓xS_dropX, ↓xS_raise, ↓xS_tryC, ↓xS_ret, ↓xS_retN, ↓xS_iff, ↓xS_for, ↓xS_wh, ↓xS_brk, ↓xS_cont, ↓xS_nx, ↓xS_seq, ↓xS_fz, ↓fzK_l, ↓fzK_d, ↓fzK_n, ↓fzK_D, ↓kS_nx, ↓kS_rt, ↓kS_bk, ↓kS_ct, ↓out1_rt, ↓out2_rt, ↓xE_allIn, ↓xE_inC, ↓xE_isB, ↓strD_s, ↓xE_callT, ↓xE_callLam, ↓xE_xin, ↓xE_xget, ↓xE_xdc, ↓xE_xd1, ↓xE_srK, ↓xE_hasX, ↓xS_newX, ↓xS_xput, ↓eT_l, noF_dT, ↓lamV_d
, ↓xE_anyNe, ↓xI_zp, ↓zpD_t, ↓xS_asgXn, ↓xS_asgXt, ↓yV_d, ↓u_b_l_freer_1, ↓A1, ↓A2, enE, ↓len_0, ↓len_2, lfE, Bool.false_eq_true, dv, Bool.not_false, Bool.false_and]
  rw [← en] at L
  have eq : ∀ (s t : List Entry), s.length = t.length → (List.range s.length).all (fun i => decide (s.getD i none ∈ frE (t.getD i none))) = frB s t := by
    intro s
    induction s with
    | nil => intro t h; cases t with
      | nil => rfl
      | cons _ _ => cases h
    | cons a s ih => intro t h; cases t with
      | nil => cases h
      | cons b t =>
        rw [List.length_cons, List.range_succ_eq_map, List.all_cons, List.all_map]
        unfold frB
        rw [← ih t (by simpa using h)]
        rfl
  rw [eq s t hl] at L
  rw [x_l_freer]
  have hz : (rgD 0 s.length).length < sizeLine := by rw [rgD_len, sizeLine_eq]; omega
  have tn : ((s.length : Nat) : Int).toNat = s.length := by omega
  unfold standD at *
  cases q : frB s t with
  | true =>
    rw [q, if_pos rfl] at L
    simp (config := { implicitDefEqProofs := false }) (disch := walk_at "side") only [↓reduceIte, decide_eq_true_eq, decide_true, decide_false, Bool.not_true, Bool.not_false, Bool.false_eq_true, Int.reduceEq, Int.reduceLT, Int.reduceLE, Int.reduceNeg, Int.reduceToNat, ↓okI, ↓okI2, ↓aV_d, ↓aV_o, ↓aV_n, ↓aV_w, ↓dV_d, ↓dV_wD, ↓aV_wD, ↓dO_d, ↓kV_w, ↓xE_dinD, ↓xE_dninD, ↓xE_dgetD, ↓xE_fnv, ↓xE_callF, ↓xE_callE, ↓xE_isaT, ↓xE_dspb, ↓xI_ukd, ↓xS_retD, ↓xS_fzD, ↓fzKD_D, ↓fzKD_d, ↓dV_n, ↓dV_w, ↓gE_0, ↓gE_s, ↓eL_l, ↓eD_l, ↓eV_d, ↓eV_l, ↓nA_d, ↓nA_o, ↓iD_i, ↓bD_b, ↓kD_i, ↓kD_s, ↓zD_d, ↓vZ_d, ↓vZ_n, ↓sR_0, ↓sR_s, ↓sK_n, ↓sK_0, ↓lD_l, ↓sD_l, ↓sD_t, ↓tD_t, ↓dA_nil, ↓dA_d, ↓dN_nil, ↓dN_c, ↓oZ_addI, ↓oZ_addS, ↓oZ_addT, ↓oZ_addL, ↓oZ_sub, ↓oZ_mul, ↓oZ_mulT, ↓oZ_mulL, ↓oZ_fdiv, ↓oZ_mod, ↓oZ_pow, ↓oZ_eqI, ↓oZ_eqS, ↓oZ_neS, ↓oZ_neI, ↓oZ_lt, ↓oZ_le, ↓oZ_gt, ↓oZ_ge, ↓oZ_ixL, ↓oZ_ixT, ↓aI_0, ↓aI_1, ↓aI_2, ↓nI_0, ↓nI_1, ↓lS_0, ↓lS_s, ↓aI_int, ↓aI_str, ↓aI_row, ↓aI_b2, ↓aI_i1, ↓aI_i2, ↓aI_i3, ↓aI_i4, ↓aI_i5, ↓aI_i6, ↓oZ_abyz, ↓oZ_az, ↓cZ_lenLm, ↓cZ_lenTm, ↓cZ_lenP, ↓oZ_ixP, ↓sD_P, ↓cZ_lstP, ↓cZ_abs, ↓cZ_int, ↓cZ_intB, ↓cZ_tup, ↓cZ_lstL, ↓cZ_lstT, ↓cZ_all, ↓cZ_any, ↓cZ_max2, ↓cZ_min2, ↓cZ_sum, ↓cZ_sorted, ↓xE_int, ↓xE_bl, ↓xE_str, ↓xE_non, ↓xE_var, ↓xE_op, ↓xE_neg, ↓xE_nt, ↓xE_an, ↓xE_or, ↓xE_ch, ↓xE_isN, ↓xE_notN, ↓xE_ife, ↓xE_tup, ↓xE_lst, ↓xE_sl, ↓sl1_T, ↓sl1_L, ↓xE_cb, ↓xE_isa, ↓xE_call, ↓xE_callX, ↓xE_lget, ↓xE_srs, xE_revT, ↓xE_revL, ↓xE_sw, ↓s2D_s, ↓xB_sif, ↓xE_dget2, ↓xT_tl, ↓xI_ky, ↓xS_lk0, ↓xR_x, ↓xR_call, ↓xR_lst, ↓xR_e, ↓xB_ret, ↓xB_iff, ↓xS_tryK, ↓xS_never, ↓xS_mv0, ↓xS_aug, ↓eF_l, noF_nil, noF_dat, noF_no, noF_lst, noF_dK, ↓sK_j, ↓xE_callS, ↓xE_lc, ↓xE_lc2, ↓xE_callL, ↓rvA_d, ↓tw2_t, ↓sN_0, ↓sN_s, ↓xE_lrg, ↓xE_trg, ↓xE_pop, ↓xE_idxL, ↓sT_s, ↓xE_idxT, ↓xE_dget, ↓xE_din, ↓xE_dnin, ↓xE_dset, ↓xE_dspV, ↓xE_dspC, ↓xE_dspM, ↓tE_d, ↓xI_rng3, ↓xA_nil, ↓xA_cons, ↓xT_te, ↓xT_tb, ↓xT_nt, ↓xT_an, ↓xT_or, ↓xT_yes, ↓xT_lend, ↓xP_no, ↓xP_at, ↓xI_rng1, ↓xI_rng2, ↓xI_u, ↓xI_en, ↓xI_enl, ↓xG_nm, ↓xG_tup, ↓xGs_nil, ↓xGs_cons, ↓sV_d, ↓sV_n, ↓sV_w, ↓rV_d, ↓rV_n, ↓rV_w, ↓rV_o, ↓xS_set, ↓xS_asg, ↓xS_seti, ↓xS_app, ↓xS_newD, ↓xS_dput, ↓xS_drop, ↓xS_dropX, ↓xS_raise, ↓xS_tryC, ↓xS_ret, ↓xS_retN, ↓xS_iff, ↓xS_for, ↓xS_wh, ↓xS_brk, ↓xS_cont, ↓xS_nx, ↓xS_seq, ↓xS_fz, ↓fzK_l, ↓fzK_d, ↓fzK_n, ↓fzK_D, ↓kS_nx, ↓kS_rt, ↓kS_bk, ↓kS_ct, ↓out1_rt, ↓out2_rt, ↓xE_allIn, ↓xE_inC, ↓xE_isB, ↓strD_s, ↓xE_callT, ↓xE_callLam, ↓xE_xin, ↓xE_xget, ↓xE_xdc, ↓xE_xd1, ↓xE_srK, ↓xE_hasX, ↓xS_newX, ↓xS_xput, ↓eT_l, noF_dT, ↓lamV_d
, ↓xE_anyNe, ↓xI_zp, ↓zpD_t, ↓xS_asgXn, ↓xS_asgXt, ↓yV_d, ↓u_c_l_freer, tn, ↓fK_s L]
  | false =>
    rw [q, if_neg (by decide)] at L
    simp (config := { implicitDefEqProofs := false }) (disch := walk_at "side") only [↓reduceIte, decide_eq_true_eq, decide_true, decide_false, Bool.not_true, Bool.not_false, Bool.false_eq_true, Int.reduceEq, Int.reduceLT, Int.reduceLE, Int.reduceNeg, Int.reduceToNat, ↓okI, ↓okI2, ↓aV_d, ↓aV_o, ↓aV_n, ↓aV_w, ↓dV_d, ↓dV_wD, ↓aV_wD, ↓dO_d, ↓kV_w, ↓xE_dinD, ↓xE_dninD, ↓xE_dgetD, ↓xE_fnv, ↓xE_callF, ↓xE_callE, ↓xE_isaT, ↓xE_dspb, ↓xI_ukd, ↓xS_retD, ↓xS_fzD, ↓fzKD_D, ↓fzKD_d, ↓dV_n, ↓dV_w, ↓gE_0, ↓gE_s, ↓eL_l, ↓eD_l, ↓eV_d, ↓eV_l, ↓nA_d, ↓nA_o, ↓iD_i, ↓bD_b, ↓kD_i, ↓kD_s, ↓zD_d, ↓vZ_d, ↓vZ_n, ↓sR_0, ↓sR_s, ↓sK_n, ↓sK_0, ↓lD_l, ↓sD_l, ↓sD_t, ↓tD_t, ↓dA_nil, ↓dA_d, ↓dN_nil, ↓dN_c, ↓oZ_addI, ↓oZ_addS, ↓oZ_addT, ↓oZ_addL, ↓oZ_sub, ↓oZ_mul, ↓oZ_mulT, ↓oZ_mulL, ↓oZ_fdiv, ↓oZ_mod, ↓oZ_pow, ↓oZ_eqI, ↓oZ_eqS, ↓oZ_neS, ↓oZ_neI, ↓oZ_lt, ↓oZ_le, ↓oZ_gt, ↓oZ_ge, ↓oZ_ixL, ↓oZ_ixT, ↓aI_0, ↓aI_1, ↓aI_2, ↓nI_0, ↓nI_1, ↓lS_0, ↓lS_s, ↓aI_int, ↓aI_str, ↓aI_row, ↓aI_b2, ↓aI_i1, ↓aI_i2, ↓aI_i3, ↓aI_i4, ↓aI_i5, ↓aI_i6, ↓oZ_abyz, ↓oZ_az, ↓cZ_lenLm, ↓cZ_lenTm, ↓cZ_lenP, ↓oZ_ixP, ↓sD_P, ↓cZ_lstP, ↓cZ_abs, ↓cZ_int, ↓cZ_intB, ↓cZ_tup, ↓cZ_lstL, ↓cZ_lstT, ↓cZ_all, ↓cZ_any, ↓cZ_max2, ↓cZ_min2, ↓cZ_sum, ↓cZ_sorted, ↓xE_int, ↓xE_bl, ↓xE_str, ↓xE_non, ↓xE_var, ↓xE_op, ↓xE_neg, ↓xE_nt, ↓xE_an, ↓xE_or, ↓xE_ch, ↓xE_isN, ↓xE_notN, ↓xE_ife, ↓xE_tup, ↓xE_lst, ↓xE_sl, ↓sl1_T, ↓sl1_L, ↓xE_cb, ↓xE_isa, ↓xE_call, ↓xE_callX, ↓xE_lget, ↓xE_srs, xE_revT, ↓xE_revL, ↓xE_sw, ↓s2D_s, ↓xB_sif, ↓xE_dget2, ↓xT_tl, ↓xI_ky, ↓xS_lk0, ↓xR_x, ↓xR_call, ↓xR_lst, ↓xR_e, ↓xB_ret, ↓xB_iff, ↓xS_tryK, ↓xS_never, ↓xS_mv0, ↓xS_aug, ↓eF_l, noF_nil, noF_dat, noF_no, noF_lst, noF_dK, ↓sK_j, ↓xE_callS, ↓xE_lc, ↓xE_lc2, ↓xE_callL, ↓rvA_d, ↓tw2_t, ↓sN_0, ↓sN_s, ↓xE_lrg, ↓xE_trg, ↓xE_pop, ↓xE_idxL, ↓sT_s, ↓xE_idxT, ↓xE_dget, ↓xE_din, ↓xE_dnin, ↓xE_dset, ↓xE_dspV, ↓xE_dspC, ↓xE_dspM, ↓tE_d, ↓xI_rng3, ↓xA_nil, ↓xA_cons, ↓xT_te, ↓xT_tb, ↓xT_nt, ↓xT_an, ↓xT_or, ↓xT_yes, ↓xT_lend, ↓xP_no, ↓xP_at, ↓xI_rng1, ↓xI_rng2, ↓xI_u, ↓xI_en, ↓xI_enl, ↓xG_nm, ↓xG_tup, ↓xGs_nil, ↓xGs_cons, ↓sV_d, ↓sV_n, ↓sV_w, ↓rV_d, ↓rV_n, ↓rV_w, ↓rV_o, ↓xS_set, ↓xS_asg, ↓xS_seti, ↓xS_app, ↓xS_newD, ↓xS_dput, ↓xS_drop, ↓xS_dropX, ↓xS_raise, ↓xS_tryC, ↓xS_ret, ↓xS_retN, ↓xS_iff, ↓xS_for, ↓xS_wh, ↓xS_brk, ↓xS_cont, ↓xS_nx, ↓xS_seq, ↓xS_fz, ↓fzK_l, ↓fzK_d, ↓fzK_n, ↓fzK_D, ↓kS_nx, ↓kS_rt, ↓kS_bk, ↓kS_ct, ↓out1_rt, ↓out2_rt, ↓xE_allIn, ↓xE_inC, ↓xE_isB, ↓strD_s, ↓xE_callT, ↓xE_callLam, ↓xE_xin, ↓xE_xget, ↓xE_xdc, ↓xE_xd1, ↓xE_srK, ↓xE_hasX, ↓xS_newX, ↓xS_xput, ↓eT_l, noF_dT, ↓lamV_d
, ↓xE_anyNe, ↓xI_zp, ↓zpD_t, ↓xS_asgXn, ↓xS_asgXt, ↓yV_d, ↓u_c_l_freer, tn, ↓fK_s L]
end CS
namespace CS
open PySem PySem.Spec PyProof.Rows L2 DL EV
local macro_rules | `(tactic| walk_at "side") => `(tactic| first | omega | (simp only [List.length_cons, List.length_nil, List.length_map, List.length_append, List.length_range, PySem.sizeLine_eq]; omega) | assumption | (simp; done))
def kE : Entry → NK
  | none => .tup []
  | some (v, u) => .tup [.num v, .num u]
def kS (s : List Entry) : NK := .tup (s.map kE)
theorem nkE (e : Entry) : nkD (enE e) = some (kE e) := by
  cases e with
  | none => rfl
  | some p => rfl
theorem nkEs : ∀ s : List Entry, nkAll (s.map enE) = some (s.map kE)
  | [] => rfl
  | e :: s => by
    rw [List.map_cons, List.map_cons, nkAll, nkE, nkEs s]
    rfl
theorem kdE (e : Entry) : (kE e).depth ≤ 2 := by
  cases e with
  | none => decide
  | some p =>
    obtain ⟨v, u⟩ := p
    show NestedKey.depth (.tup [.num v, .num u]) ≤ 2
    simp [NestedKey.depth, NestedKey.depthAll]
theorem kdEs : ∀ s : List Entry, NestedKey.depthAll (s.map kE) ≤ 2
  | [] => by decide
  | e :: s => by
    have h1 := kdE e
    have h2 := kdEs s
    rw [List.map_cons, NestedKey.depthAll]
    omega
theorem tkS (s : List Entry) : tkD (standD s) = some (kS s) := by
  have h := kdEs s
  have h2 : (kS s).depth ≤ 8 := by
    unfold kS
    rw [NestedKey.depth]
    omega
  have e : nkD (standD s) = some (kS s) := by
    unfold standD
    rw [nkD, nkEs]
    rfl
  show (nkD (standD s)).bind _ = _
  rw [e]
  show (if (kS s).depth ≤ 8 then _ else _) = _
  rw [if_pos h2]
theorem kS_data (s : List Entry) : (kS s).data = standD s := (tkD_eq (tkS s)).1.symm
theorem standD_inj {s t : List Entry} (h : standD s = standD t) : s = t := by
  have := eqvS s t
  rw [h, eqvStand] at this
  exact of_decide_eq_true this.symm
theorem kS_inj {s t : List Entry} : kS s = kS t ↔ s = t := ⟨fun h => standD_inj (by rw [← kS_data, ← kS_data, h]), fun h => by rw [h]⟩
theorem tkK_S {β : Type} {s : List Entry} {kq : NK → Option β} : tkK (standD s) kq = kq (kS s) := by
  show (tkD (standD s)).bind kq = _
  rw [tkS]; rfl
theorem tks_S : ∀ L : List (List Entry), tksD (L.map standD) = some (L.map kS)
  | [] => rfl
  | s :: L => by
    rw [List.map_cons, List.map_cons, tksD, tkS, tks_S L]
    rfl
/-- the dict of the stands, each once -/
def trD (L : List (List Entry)) : List (NK × D) := L.map fun s => (kS s, .bool true)
def ddS (xs : List (List Entry)) : List (List Entry) := xs.foldl (fun L s => if s ∈ L then L else L ++ [s]) []
theorem tr_any (s : List Entry) : ∀ L : List (List Entry), ((trD L).any fun z => decide (z.1 = kS s)) = decide (s ∈ L)
  | [] => rfl
  | t :: L => by
    show (decide (kS t = kS s) || (trD L).any _) = _
    rw [tr_any s L]
    by_cases h : t = s
    · rw [h]; simp
    · have h' : ¬ s = t := fun z => h z.symm
      have h2 : ¬ kS t = kS s := fun z => h (kS_inj.mp z)
      by_cases h3 : s ∈ L <;> simp [h', h2, h3]
theorem tr_put (s : List Entry) (L : List (List Entry)) : putT (trD L) (kS s) (.bool true) = trD (if s ∈ L then L else L ++ [s]) := by
  unfold putT
  rw [tr_any]
  by_cases h : s ∈ L
  · rw [decide_eq_true h, if_pos rfl, if_pos h]
    unfold trD
    rw [List.map_map]
    refine List.map_congr_left fun t m => ?_
    show (if kS t = kS s then _ else _) = _
    split <;> rfl
  · rw [decide_eq_false h, if_neg (by decide), if_neg h]
    unfold trD
    rw [List.map_append]
    rfl
theorem tr_fold : ∀ (xs L : List (List Entry)), (xs.map fun s => (kS s, PyData.bool true)).foldl (fun kvs p => putT kvs p.1 p.2) (trD L) = trD (xs.foldl (fun L s => if s ∈ L then L else L ++ [s]) L)
  | [], L => rfl
  | s :: xs, L => by
    rw [List.map_cons, List.foldl_cons, List.foldl_cons]
    show List.foldl _ (putT (trD L) (kS s) (.bool true)) _ = _
    rw [tr_put, tr_fold xs]
theorem foldT_tr (xs : List (List Entry)) : foldT (xs.map fun s => (kS s, PyData.bool true)) = trD (ddS xs) := tr_fold xs []
theorem dd_mem : ∀ (xs L : List (List Entry)) (s : List Entry), s ∈ xs.foldl (fun L s => if s ∈ L then L else L ++ [s]) L ↔ s ∈ L ∨ s ∈ xs
  | [], L, s => by simp
  | x :: xs, L, s => by
    rw [List.foldl_cons, dd_mem xs]
    by_cases h : x ∈ L
    · rw [if_pos h, List.mem_cons]
      constructor
      · rintro (q | q)
        · exact .inl q
        · exact .inr (.inr q)
      · rintro (q | q | q)
        · exact .inl q
        · exact .inl (q ▸ h)
        · exact .inr q
    · rw [if_neg h, List.mem_append, List.mem_singleton, List.mem_cons]
      constructor
      · rintro ((q | q) | q)
        · exact .inl q
        · exact .inr (.inl q)
        · exact .inr (.inr q)
      · rintro (q | q | q)
        · exact .inl (.inl q)
        · exact .inl (.inr q)
        · exact .inr q
theorem mem_dd {xs : List (List Entry)} {s : List Entry} : s ∈ ddS xs ↔ s ∈ xs := by
  unfold ddS
  rw [dd_mem]
  simp
theorem dd_len : ∀ (xs L : List (List Entry)), (xs.foldl (fun L s => if s ∈ L then L else L ++ [s]) L).length ≤ L.length + xs.length
  | [], L => by simp
  | x :: xs, L => by
    rw [List.foldl_cons]
    have h := dd_len xs (if x ∈ L then L else L ++ [x])
    have h2 : (if x ∈ L then L else L ++ [x]).length ≤ L.length + 1 := by split <;> simp
    rw [List.length_cons]
    omega
theorem tr_val (t : List Entry) (L : List (List Entry)) : (valT (trD L) (kS t)).isSome = decide (t ∈ L) := by
  rw [← tr_any t L]
  unfold valT
  induction trD L with
  | nil => rfl
  | cons z zs ih =>
    rw [List.find?_cons, List.any_cons]
    cases hz : decide (z.1 = kS t) with
    | true => rfl
    | false => rw [Bool.false_or]; exact ih
theorem pr1_x {ps : List Nat} {i : Nat} {a b : Ex} {x : D} {ρ : Rho} : pr1 ps i a b x ρ = sR ρ i (.dat x) fun ρ1 => xE ps a ρ1 fun v ρ2 => dV v fun d => tkK d fun k => xE ps b ρ2 fun w ρ3 => dV w fun e => sN ρ3 i fun ρ4 => some ((k, e), ρ4) := by
  simp only [pr1, sR, xE, dV, tkK]
  split
  · refine bindE fun r _ => bindE fun d _ => bindE fun k _ => bindE fun q _ => ?_
    cases toD q.1 <;> rfl
  · rfl
theorem prGo_map {α : Type} {f : D → Rho → Option ((NK × D) × Rho)} (enc : α → D) (g : α → NK × D) {ρ : Rho} : ∀ {xs : List α}, (∀ x ∈ xs, f (enc x) ρ = some (g x, ρ)) → prGo f (xs.map enc) ρ = some (xs.map g, ρ)
  | [], _ => rfl
  | x :: xs, h => by
    rw [List.map_cons, List.map_cons]
    unfold prGo
    rw [h x List.mem_cons_self, Option.bind_some, prGo_map enc g fun y m => h y (List.mem_cons_of_mem _ m)]
    rfl
def unE : D → Entry
  | .tuple [.int v, .int u] => some (v, u)
  | _ => none
def unS : D → List Entry
  | .tuple ds => ds.map unE
  | _ => []
theorem un_en (s : List Entry) : unS (standD s) = s := by
  show (s.map enE).map unE = s
  rw [List.map_map]
  have : (unE ∘ enE) = id := by
    funext e
    cases e with
    | none => rfl
    | some p => rfl
  rw [this, List.map_id]
theorem sorted_stands (L : List (List Entry)) : ∃ SL : List (List Entry), SL.Perm L ∧ sortedD (L.map standD) = SL.map standD := by
  have hp : (sortedD (L.map standD)).Perm (L.map standD) := List.mergeSort_perm _ _
  refine ⟨(sortedD (L.map standD)).map unS, ?_, ?_⟩
  · have := hp.map unS
    rw [List.map_map] at this
    have e : (unS ∘ standD) = id := funext un_en
    rw [e, List.map_id] at this
    exact this
  · rw [List.map_map]
    symm
    have : ∀ d ∈ sortedD (L.map standD), (standD ∘ unS) d = d := fun d m => by
      obtain ⟨s, ms, rfl⟩ := List.mem_map.mp (hp.mem_iff.mp m)
      show standD (unS (standD s)) = _
      rw [un_en]
    calc (sortedD (L.map standD)).map (standD ∘ unS) = (sortedD (L.map standD)).map id := List.map_congr_left this
      _ = _ := List.map_id _
theorem alikeE (a b : Entry) : PySem.W.alike (enE a) (enE b) = true := by
  cases a <;> cases b <;> rfl
theorem alikeEs : ∀ s t : List Entry, PySem.W.alikeAll (s.map enE) (t.map enE) = true
  | [], t => by cases t <;> rfl
  | a :: s, [] => rfl
  | a :: s, b :: t => by
    rw [List.map_cons, List.map_cons, PySem.W.alikeAll, alikeE, alikeEs s t]
    rfl
theorem hasDictEs : ∀ s : List Entry, PyData.hasDictAll (s.map enE) = false
  | [] => rfl
  | a :: s => by
    rw [List.map_cons, PyData.hasDictAll, hasDictEs s]
    cases a <;> rfl
theorem srt_ok {L : List (List Entry)} (h : ∀ s ∈ L, 1 ≤ s.length) : srtOk (L.map standD) = true := by
  unfold srtOk
  simp only [Bool.and_eq_true, List.all_eq_true, Bool.not_eq_true', decide_eq_true_eq]
  refine ⟨⟨fun d m d' m' => ?_, fun d m => ?_⟩, fun d m => ?_⟩
  · obtain ⟨s, _, rfl⟩ := List.mem_map.mp m
    obtain ⟨t, _, rfl⟩ := List.mem_map.mp m'
    exact alikeEs s t
  · obtain ⟨s, ms, rfl⟩ := List.mem_map.mp m
    have := h s ms
    cases s with
    | nil => simp at this
    | cons a s => rfl
  · obtain ⟨s, _, rfl⟩ := List.mem_map.mp m
    have hd := depthEnt s
    refine ⟨?_, hasDictEs s⟩
    show PyData.depthAll (s.map enE) + 1 ≤ 62
    omega
theorem has_freer_eq {L : List (List Entry)} {s : List Entry} (h4 : s.length ≤ 4) : f_has_freer (trD L) (standD s) = some ((frS s).any fun t => decide (t ∈ L) && !decide (t = s)) := by
  unfold f_has_freer hasD
  rw [freer_stands_eq h4]
  show (tksD ((frS s).map standD)).bind _ = _
  rw [tks_S]
  show (tkD (standD s)).bind _ = _
  rw [tkS]
  show (if _ then _ else _) = _
  rw [if_pos ⟨shStand s, fun m mm => by
    obtain ⟨t, _, rfl⟩ := List.mem_map.mp mm
    exact shStand t⟩, List.any_map]
  congr 2
  funext t
  show ((valT (trD L) (kS t)).isSome && !PyData.eqv (kS t).data (kS s).data) = _
  rw [tr_val, kS_data, kS_data, eqvS]
end CS
namespace CS
open PySem PySem.Spec PyProof.Rows L2 DL EV
local macro_rules | `(tactic| walk_at "side") => `(tactic| first | omega | (simp only [List.length_cons, List.length_nil, List.length_map, List.length_append, List.length_range, PySem.sizeLine_eq]; omega) | assumption | (simp; done))
def slS (xs : List (List Entry)) : List (List Entry) := (sortedD ((ddS xs).map standD)).map unS
theorem slS_eq (xs : List (List Entry)) : sortedD ((ddS xs).map standD) = (slS xs).map standD ∧ (slS xs).Perm (ddS xs) := by
  obtain ⟨SL, h1, h2⟩ := sorted_stands (ddS xs)
  have e : slS xs = SL := by
    unfold slS
    rw [h2, List.map_map]
    have : (unS ∘ standD) = id := funext un_en
    rw [this, List.map_id]
  rw [e]
  exact ⟨h2, h1⟩
def minP (xs : List (List Entry)) (s : List Entry) : Bool := !(xs.any fun t => !decide (t = s) && frB t s)
theorem minP_eq (xs : List (List Entry)) (s : List Entry) : (!(frS s).any fun t => decide (t ∈ ddS xs) && !decide (t = s)) = minP xs s := by
  unfold minP
  congr 1
  rw [Bool.eq_iff_iff, List.any_eq_true, List.any_eq_true]
  constructor
  · rintro ⟨t, m, h⟩
    rw [Bool.and_eq_true, decide_eq_true_eq] at h
    exact ⟨t, mem_dd.mp h.1, by rw [h.2, mem_frS.mp m]; rfl⟩
  · rintro ⟨t, m, h⟩
    rw [Bool.and_eq_true] at h
    exact ⟨t, mem_frS.mpr h.2, by rw [decide_eq_true (mem_dd.mpr m), h.1]; rfl⟩
theorem freest_eq2 {xs : List (List Entry)} {h : Nat} (hx : ∀ s ∈ xs, s.length = h) (hh : 1 ≤ h ∧ h ≤ 4) (hz : xs.length ≤ 1000) : f_freest [.list (xs.map standD)] = some (.new (.lst (((slS xs).filter (minP xs)).map standD))) := by
  have P : prGo (pr1 [] 2 (.var 2) (.bl true)) (xs.map standD) [.dat (.list (xs.map standD)), .no, .no] = some (xs.map (fun s => (kS s, PyData.bool true)), [.dat (.list (xs.map standD)), .no, .no]) := by
    refine prGo_map standD _ fun s m => ?_
    rw [pr1_x]
    simp (config := { implicitDefEqProofs := false }) (disch := walk_at "side") only [↓reduceIte, decide_eq_true_eq, decide_true, decide_false, Bool.not_true, Bool.not_false, Bool.false_eq_true, Int.reduceEq, Int.reduceLT, Int.reduceLE, Int.reduceNeg, Int.reduceToNat, ↓okI, ↓okI2, ↓aV_d, ↓aV_o, ↓aV_n, ↓aV_w, ↓dV_d, ↓dV_wD, ↓aV_wD, ↓dO_d, ↓kV_w, ↓xE_dinD, ↓xE_dninD, ↓xE_dgetD, ↓xE_fnv, ↓xE_callF, ↓xE_callE, ↓xE_isaT, ↓xE_dspb, ↓xI_ukd, ↓xS_retD, ↓xS_fzD, ↓fzKD_D, ↓fzKD_d, ↓dV_n, ↓dV_w, ↓gE_0, ↓gE_s, ↓eL_l, ↓eD_l, ↓eV_d, ↓eV_l, ↓nA_d, ↓nA_o, ↓iD_i, ↓bD_b, ↓kD_i, ↓kD_s, ↓zD_d, ↓vZ_d, ↓vZ_n, ↓sR_0, ↓sR_s, ↓sK_n, ↓sK_0, ↓lD_l, ↓sD_l, ↓sD_t, ↓tD_t, ↓dA_nil, ↓dA_d, ↓dN_nil, ↓dN_c, ↓oZ_addI, ↓oZ_addS, ↓oZ_addT, ↓oZ_addL, ↓oZ_sub, ↓oZ_mul, ↓oZ_mulT, ↓oZ_mulL, ↓oZ_fdiv, ↓oZ_mod, ↓oZ_pow, ↓oZ_eqI, ↓oZ_eqS, ↓oZ_neS, ↓oZ_neI, ↓oZ_lt, ↓oZ_le, ↓oZ_gt, ↓oZ_ge, ↓oZ_ixL, ↓oZ_ixT, ↓aI_0, ↓aI_1, ↓aI_2, ↓nI_0, ↓nI_1, ↓lS_0, ↓lS_s, ↓aI_int, ↓aI_str, ↓aI_row, ↓aI_b2, ↓aI_i1, ↓aI_i2, ↓aI_i3, ↓aI_i4, ↓aI_i5, ↓aI_i6, ↓oZ_abyz, ↓oZ_az, ↓cZ_lenLm, ↓cZ_lenTm, ↓cZ_lenP, ↓oZ_ixP, ↓sD_P, ↓cZ_lstP, ↓cZ_abs, ↓cZ_int, ↓cZ_intB, ↓cZ_tup, ↓cZ_lstL, ↓cZ_lstT, ↓cZ_all, ↓cZ_any, ↓cZ_max2, ↓cZ_min2, ↓cZ_sum, ↓cZ_sorted, ↓xE_int, ↓xE_bl, ↓xE_str, ↓xE_non, ↓xE_var, ↓xE_op, ↓xE_neg, ↓xE_nt, ↓xE_an, ↓xE_or, ↓xE_ch, ↓xE_isN, ↓xE_notN, ↓xE_ife, ↓xE_tup, ↓xE_lst, ↓xE_sl, ↓sl1_T, ↓sl1_L, ↓xE_cb, ↓xE_isa, ↓xE_call, ↓xE_callX, ↓xE_lget, ↓xE_srs, xE_revT, ↓xE_revL, ↓xE_sw, ↓s2D_s, ↓xB_sif, ↓xE_dget2, ↓xT_tl, ↓xI_ky, ↓xS_lk0, ↓xR_x, ↓xR_call, ↓xR_lst, ↓xR_e, ↓xB_ret, ↓xB_iff, ↓xS_tryK, ↓xS_never, ↓xS_mv0, ↓xS_aug, ↓eF_l, noF_nil, noF_dat, noF_no, noF_lst, noF_dK, ↓sK_j, ↓xE_callS, ↓xE_lc, ↓xE_lc2, ↓xE_callL, ↓rvA_d, ↓tw2_t, ↓sN_0, ↓sN_s, ↓xE_lrg, ↓xE_trg, ↓xE_pop, ↓xE_idxL, ↓sT_s, ↓xE_idxT, ↓xE_dget, ↓xE_din, ↓xE_dnin, ↓xE_dset, ↓xE_dspV, ↓xE_dspC, ↓xE_dspM, ↓tE_d, ↓xI_rng3, ↓xA_nil, ↓xA_cons, ↓xT_te, ↓xT_tb, ↓xT_nt, ↓xT_an, ↓xT_or, ↓xT_yes, ↓xT_lend, ↓xP_no, ↓xP_at, ↓xI_rng1, ↓xI_rng2, ↓xI_u, ↓xI_en, ↓xI_enl, ↓xG_nm, ↓xG_tup, ↓xGs_nil, ↓xGs_cons, ↓sV_d, ↓sV_n, ↓sV_w, ↓rV_d, ↓rV_n, ↓rV_w, ↓rV_o, ↓xS_set, ↓xS_asg, ↓xS_seti, ↓xS_app, ↓xS_newD, ↓xS_dput, ↓xS_drop, ↓xS_dropX, ↓xS_raise, ↓xS_tryC, ↓xS_ret, ↓xS_retN, ↓xS_iff, ↓xS_for, ↓xS_wh, ↓xS_brk, ↓xS_cont, ↓xS_nx, ↓xS_seq, ↓xS_fz, ↓fzK_l, ↓fzK_d, ↓fzK_n, ↓fzK_D, ↓kS_nx, ↓kS_rt, ↓kS_bk, ↓kS_ct, ↓out1_rt, ↓out2_rt, ↓xE_allIn, ↓xE_inC, ↓xE_isB, ↓strD_s, ↓xE_callT, ↓xE_callLam, ↓xE_xin, ↓xE_xget, ↓xE_xdc, ↓xE_xd1, ↓xE_srK, ↓xE_hasX, ↓xE_srts, ↓xS_newX, ↓xS_xput, ↓eT_l, noF_dT, ↓lamV_d
, ↓xE_anyNe, ↓xI_zp, ↓zpD_t, ↓xS_asgXn, ↓xS_asgXt, ↓yV_d, ↓tkK_S]
  have lx : (xs.map standD).length < sizeLine := by rw [List.length_map, sizeLine_eq]; omega
  have dl := dd_len xs []
  obtain ⟨hs, hp⟩ := slS_eq xs
  have hSL : ∀ s, s ∈ slS xs ↔ s ∈ xs := fun s => hp.mem_iff.trans mem_dd
  have kd : (trD (ddS xs)).map (fun z => z.1.data) = (ddS xs).map standD := by
    unfold trD
    rw [List.map_map]
    exact List.map_congr_left fun s _ => kS_data s
  have so : srtOk ((ddS xs).map standD) = true := srt_ok fun s m => by rw [hx s (mem_dd.mp m)]; exact hh.1
  have G : lcGo (ltn [] 2 t_freest_3 e_freest_1) ((slS xs).map standD) [.dat (.list (xs.map standD)), .own (.dT (trD (ddS xs))), .no] = some (((slS xs).filter (minP xs)).map standD, [.dat (.list (xs.map standD)), .own (.dT (trD (ddS xs))), .no]) := by
    refine lc_mapf standD standD _ fun s m => ?_
    have hb := has_freer_eq (L := ddS xs) (s := s) (by rw [hx s ((hSL s).mp m)]; exact hh.2)
    rw [ltn_x, ← minP_eq]
    generalize ((frS s).any fun t => decide (t ∈ ddS xs) && !decide (t = s)) = b at hb
    cases b with
    | true => simp (config := { implicitDefEqProofs := false }) (disch := walk_at "side") only [↓reduceIte, decide_eq_true_eq, decide_true, decide_false, Bool.not_true, Bool.not_false, Bool.false_eq_true, Int.reduceEq, Int.reduceLT, Int.reduceLE, Int.reduceNeg, Int.reduceToNat, ↓okI, ↓okI2, ↓aV_d, ↓aV_o, ↓aV_n, ↓aV_w, ↓dV_d, ↓dV_wD, ↓aV_wD, ↓dO_d, ↓kV_w, ↓xE_dinD, ↓xE_dninD, ↓xE_dgetD, ↓xE_fnv, ↓xE_callF, ↓xE_callE, ↓xE_isaT, ↓xE_dspb, ↓xI_ukd, ↓xS_retD, ↓xS_fzD, ↓fzKD_D, ↓fzKD_d, ↓dV_n, ↓dV_w, ↓gE_0, ↓gE_s, ↓eL_l, ↓eD_l, ↓eV_d, ↓eV_l, ↓nA_d, ↓nA_o, ↓iD_i, ↓bD_b, ↓kD_i, ↓kD_s, ↓zD_d, ↓vZ_d, ↓vZ_n, ↓sR_0, ↓sR_s, ↓sK_n, ↓sK_0, ↓lD_l, ↓sD_l, ↓sD_t, ↓tD_t, ↓dA_nil, ↓dA_d, ↓dN_nil, ↓dN_c, ↓oZ_addI, ↓oZ_addS, ↓oZ_addT, ↓oZ_addL, ↓oZ_sub, ↓oZ_mul, ↓oZ_mulT, ↓oZ_mulL, ↓oZ_fdiv, ↓oZ_mod, ↓oZ_pow, ↓oZ_eqI, ↓oZ_eqS, ↓oZ_neS, ↓oZ_neI, ↓oZ_lt, ↓oZ_le, ↓oZ_gt, ↓oZ_ge, ↓oZ_ixL, ↓oZ_ixT, ↓aI_0, ↓aI_1, ↓aI_2, ↓nI_0, ↓nI_1, ↓lS_0, ↓lS_s, ↓aI_int, ↓aI_str, ↓aI_row, ↓aI_b2, ↓aI_i1, ↓aI_i2, ↓aI_i3, ↓aI_i4, ↓aI_i5, ↓aI_i6, ↓oZ_abyz, ↓oZ_az, ↓cZ_lenLm, ↓cZ_lenTm, ↓cZ_lenP, ↓oZ_ixP, ↓sD_P, ↓cZ_lstP, ↓cZ_abs, ↓cZ_int, ↓cZ_intB, ↓cZ_tup, ↓cZ_lstL, ↓cZ_lstT, ↓cZ_all, ↓cZ_any, ↓cZ_max2, ↓cZ_min2, ↓cZ_sum, ↓cZ_sorted, ↓xE_int, ↓xE_bl, ↓xE_str, ↓xE_non, ↓xE_var, ↓xE_op, ↓xE_neg, ↓xE_nt, ↓xE_an, ↓xE_or, ↓xE_ch, ↓xE_isN, ↓xE_notN, ↓xE_ife, ↓xE_tup, ↓xE_lst, ↓xE_sl, ↓sl1_T, ↓sl1_L, ↓xE_cb, ↓xE_isa, ↓xE_call, ↓xE_callX, ↓xE_lget, ↓xE_srs, xE_revT, ↓xE_revL, ↓xE_sw, ↓s2D_s, ↓xB_sif, ↓xE_dget2, ↓xT_tl, ↓xI_ky, ↓xS_lk0, ↓xR_x, ↓xR_call, ↓xR_lst, ↓xR_e, ↓xB_ret, ↓xB_iff, ↓xS_tryK, ↓xS_never, ↓xS_mv0, ↓xS_aug, ↓eF_l, noF_nil, noF_dat, noF_no, noF_lst, noF_dK, ↓sK_j, ↓xE_callS, ↓xE_lc, ↓xE_lc2, ↓xE_callL, ↓rvA_d, ↓tw2_t, ↓sN_0, ↓sN_s, ↓xE_lrg, ↓xE_trg, ↓xE_pop, ↓xE_idxL, ↓sT_s, ↓xE_idxT, ↓xE_dget, ↓xE_din, ↓xE_dnin, ↓xE_dset, ↓xE_dspV, ↓xE_dspC, ↓xE_dspM, ↓tE_d, ↓xI_rng3, ↓xA_nil, ↓xA_cons, ↓xT_te, ↓xT_tb, ↓xT_nt, ↓xT_an, ↓xT_or, ↓xT_yes, ↓xT_lend, ↓xP_no, ↓xP_at, ↓xI_rng1, ↓xI_rng2, ↓xI_u, ↓xI_en, ↓xI_enl, ↓xG_nm, ↓xG_tup, ↓xGs_nil, ↓xGs_cons, ↓sV_d, ↓sV_n, ↓sV_w, ↓rV_d, ↓rV_n, ↓rV_w, ↓rV_o, ↓xS_set, ↓xS_asg, ↓xS_seti, ↓xS_app, ↓xS_newD, ↓xS_dput, ↓xS_drop, ↓xS_dropX, ↓xS_raise, ↓xS_tryC, ↓xS_ret, ↓xS_retN, ↓xS_iff, ↓xS_for, ↓xS_wh, ↓xS_brk, ↓xS_cont, ↓xS_nx, ↓xS_seq, ↓xS_fz, ↓fzK_l, ↓fzK_d, ↓fzK_n, ↓fzK_D, ↓kS_nx, ↓kS_rt, ↓kS_bk, ↓kS_ct, ↓out1_rt, ↓out2_rt, ↓xE_allIn, ↓xE_inC, ↓xE_isB, ↓strD_s, ↓xE_callT, ↓xE_callLam, ↓xE_xin, ↓xE_xget, ↓xE_xdc, ↓xE_xd1, ↓xE_srK, ↓xE_hasX, ↓xE_srts, ↓xS_newX, ↓xS_xput, ↓eT_l, noF_dT, ↓lamV_d
, ↓xE_anyNe, ↓xI_zp, ↓zpD_t, ↓xS_asgXn, ↓xS_asgXt, ↓yV_d, ↓u_t_freest_3, ↓u_e_freest_1, ↓hX_s hb, Bool.not_true, Bool.false_eq_true]
    | false => simp (config := { implicitDefEqProofs := false }) (disch := walk_at "side") only [↓reduceIte, decide_eq_true_eq, decide_true, decide_false, Bool.not_true, Bool.not_false, Bool.false_eq_true, Int.reduceEq, Int.reduceLT, Int.reduceLE, Int.reduceNeg, Int.reduceToNat, ↓okI, ↓okI2, ↓aV_d, ↓aV_o, ↓aV_n, ↓aV_w, ↓dV_d, ↓dV_wD, ↓aV_wD, ↓dO_d, ↓kV_w, ↓xE_dinD, ↓xE_dninD, ↓xE_dgetD, ↓xE_fnv, ↓xE_callF, ↓xE_callE, ↓xE_isaT, ↓xE_dspb, ↓xI_ukd, ↓xS_retD, ↓xS_fzD, ↓fzKD_D, ↓fzKD_d, ↓dV_n, ↓dV_w, ↓gE_0, ↓gE_s, ↓eL_l, ↓eD_l, ↓eV_d, ↓eV_l, ↓nA_d, ↓nA_o, ↓iD_i, ↓bD_b, ↓kD_i, ↓kD_s, ↓zD_d, ↓vZ_d, ↓vZ_n, ↓sR_0, ↓sR_s, ↓sK_n, ↓sK_0, ↓lD_l, ↓sD_l, ↓sD_t, ↓tD_t, ↓dA_nil, ↓dA_d, ↓dN_nil, ↓dN_c, ↓oZ_addI, ↓oZ_addS, ↓oZ_addT, ↓oZ_addL, ↓oZ_sub, ↓oZ_mul, ↓oZ_mulT, ↓oZ_mulL, ↓oZ_fdiv, ↓oZ_mod, ↓oZ_pow, ↓oZ_eqI, ↓oZ_eqS, ↓oZ_neS, ↓oZ_neI, ↓oZ_lt, ↓oZ_le, ↓oZ_gt, ↓oZ_ge, ↓oZ_ixL, ↓oZ_ixT, ↓aI_0, ↓aI_1, ↓aI_2, ↓nI_0, ↓nI_1, ↓lS_0, ↓lS_s, ↓aI_int, ↓aI_str, ↓aI_row, ↓aI_b2, ↓aI_i1, ↓aI_i2, ↓aI_i3, ↓aI_i4, ↓aI_i5, ↓aI_i6, ↓oZ_abyz, ↓oZ_az, ↓cZ_lenLm, ↓cZ_lenTm, ↓cZ_lenP, ↓oZ_ixP, ↓sD_P, ↓cZ_lstP, ↓cZ_abs, ↓cZ_int, ↓cZ_intB, ↓cZ_tup, ↓cZ_lstL, ↓cZ_lstT, ↓cZ_all, ↓cZ_any, ↓cZ_max2, ↓cZ_min2, ↓cZ_sum, ↓cZ_sorted, ↓xE_int, ↓xE_bl, ↓xE_str, ↓xE_non, ↓xE_var, ↓xE_op, ↓xE_neg, ↓xE_nt, ↓xE_an, ↓xE_or, ↓xE_ch, ↓xE_isN, ↓xE_notN, ↓xE_ife, ↓xE_tup, ↓xE_lst, ↓xE_sl, ↓sl1_T, ↓sl1_L, ↓xE_cb, ↓xE_isa, ↓xE_call, ↓xE_callX, ↓xE_lget, ↓xE_srs, xE_revT, ↓xE_revL, ↓xE_sw, ↓s2D_s, ↓xB_sif, ↓xE_dget2, ↓xT_tl, ↓xI_ky, ↓xS_lk0, ↓xR_x, ↓xR_call, ↓xR_lst, ↓xR_e, ↓xB_ret, ↓xB_iff, ↓xS_tryK, ↓xS_never, ↓xS_mv0, ↓xS_aug, ↓eF_l, noF_nil, noF_dat, noF_no, noF_lst, noF_dK, ↓sK_j, ↓xE_callS, ↓xE_lc, ↓xE_lc2, ↓xE_callL, ↓rvA_d, ↓tw2_t, ↓sN_0, ↓sN_s, ↓xE_lrg, ↓xE_trg, ↓xE_pop, ↓xE_idxL, ↓sT_s, ↓xE_idxT, ↓xE_dget, ↓xE_din, ↓xE_dnin, ↓xE_dset, ↓xE_dspV, ↓xE_dspC, ↓xE_dspM, ↓tE_d, ↓xI_rng3, ↓xA_nil, ↓xA_cons, ↓xT_te, ↓xT_tb, ↓xT_nt, ↓xT_an, ↓xT_or, ↓xT_yes, ↓xT_lend, ↓xP_no, ↓xP_at, ↓xI_rng1, ↓xI_rng2, ↓xI_u, ↓xI_en, ↓xI_enl, ↓xG_nm, ↓xG_tup, ↓xGs_nil, ↓xGs_cons, ↓sV_d, ↓sV_n, ↓sV_w, ↓rV_d, ↓rV_n, ↓rV_w, ↓rV_o, ↓xS_set, ↓xS_asg, ↓xS_seti, ↓xS_app, ↓xS_newD, ↓xS_dput, ↓xS_drop, ↓xS_dropX, ↓xS_raise, ↓xS_tryC, ↓xS_ret, ↓xS_retN, ↓xS_iff, ↓xS_for, ↓xS_wh, ↓xS_brk, ↓xS_cont, ↓xS_nx, ↓xS_seq, ↓xS_fz, ↓fzK_l, ↓fzK_d, ↓fzK_n, ↓fzK_D, ↓kS_nx, ↓kS_rt, ↓kS_bk, ↓kS_ct, ↓out1_rt, ↓out2_rt, ↓xE_allIn, ↓xE_inC, ↓xE_isB, ↓strD_s, ↓xE_callT, ↓xE_callLam, ↓xE_xin, ↓xE_xget, ↓xE_xdc, ↓xE_xd1, ↓xE_srK, ↓xE_hasX, ↓xE_srts, ↓xS_newX, ↓xS_xput, ↓eT_l, noF_dT, ↓lamV_d
, ↓xE_anyNe, ↓xI_zp, ↓zpD_t, ↓xS_asgXn, ↓xS_asgXt, ↓yV_d, ↓u_t_freest_3, ↓u_e_freest_1, ↓hX_s hb, Bool.not_false, Bool.false_eq_true]
  have lS : ((slS xs).map standD).length < sizeLine := by
    rw [List.length_map, hp.length_eq, sizeLine_eq]
    unfold ddS
    simp only [List.length_nil] at dl
    omega
  rw [x_freest]
  simp (config := { implicitDefEqProofs := false }) (disch := walk_at "side") only [↓reduceIte, decide_eq_true_eq, decide_true, decide_false, Bool.not_true, Bool.not_false, Bool.false_eq_true, Int.reduceEq, Int.reduceLT, Int.reduceLE, Int.reduceNeg, Int.reduceToNat, ↓okI, ↓okI2, ↓aV_d, ↓aV_o, ↓aV_n, ↓aV_w, ↓dV_d, ↓dV_wD, ↓aV_wD, ↓dO_d, ↓kV_w, ↓xE_dinD, ↓xE_dninD, ↓xE_dgetD, ↓xE_fnv, ↓xE_callF, ↓xE_callE, ↓xE_isaT, ↓xE_dspb, ↓xI_ukd, ↓xS_retD, ↓xS_fzD, ↓fzKD_D, ↓fzKD_d, ↓dV_n, ↓dV_w, ↓gE_0, ↓gE_s, ↓eL_l, ↓eD_l, ↓eV_d, ↓eV_l, ↓nA_d, ↓nA_o, ↓iD_i, ↓bD_b, ↓kD_i, ↓kD_s, ↓zD_d, ↓vZ_d, ↓vZ_n, ↓sR_0, ↓sR_s, ↓sK_n, ↓sK_0, ↓lD_l, ↓sD_l, ↓sD_t, ↓tD_t, ↓dA_nil, ↓dA_d, ↓dN_nil, ↓dN_c, ↓oZ_addI, ↓oZ_addS, ↓oZ_addT, ↓oZ_addL, ↓oZ_sub, ↓oZ_mul, ↓oZ_mulT, ↓oZ_mulL, ↓oZ_fdiv, ↓oZ_mod, ↓oZ_pow, ↓oZ_eqI, ↓oZ_eqS, ↓oZ_neS, ↓oZ_neI, ↓oZ_lt, ↓oZ_le, ↓oZ_gt, ↓oZ_ge, ↓oZ_ixL, ↓oZ_ixT, ↓aI_0, ↓aI_1, ↓aI_2, ↓nI_0, ↓nI_1, ↓lS_0, ↓lS_s, ↓aI_int, ↓aI_str, ↓aI_row, ↓aI_b2, ↓aI_i1, ↓aI_i2, ↓aI_i3, ↓aI_i4, ↓aI_i5, ↓aI_i6, ↓oZ_abyz, ↓oZ_az, ↓cZ_lenLm, ↓cZ_lenTm, ↓cZ_lenP, ↓oZ_ixP, ↓sD_P, ↓cZ_lstP, ↓cZ_abs, ↓cZ_int, ↓cZ_intB, ↓cZ_tup, ↓cZ_lstL, ↓cZ_lstT, ↓cZ_all, ↓cZ_any, ↓cZ_max2, ↓cZ_min2, ↓cZ_sum, ↓cZ_sorted, ↓xE_int, ↓xE_bl, ↓xE_str, ↓xE_non, ↓xE_var, ↓xE_op, ↓xE_neg, ↓xE_nt, ↓xE_an, ↓xE_or, ↓xE_ch, ↓xE_isN, ↓xE_notN, ↓xE_ife, ↓xE_tup, ↓xE_lst, ↓xE_sl, ↓sl1_T, ↓sl1_L, ↓xE_cb, ↓xE_isa, ↓xE_call, ↓xE_callX, ↓xE_lget, ↓xE_srs, xE_revT, ↓xE_revL, ↓xE_sw, ↓s2D_s, ↓xB_sif, ↓xE_dget2, ↓xT_tl, ↓xI_ky, ↓xS_lk0, ↓xR_x, ↓xR_call, ↓xR_lst, ↓xR_e, ↓xB_ret, ↓xB_iff, ↓xS_tryK, ↓xS_never, ↓xS_mv0, ↓xS_aug, ↓eF_l, noF_nil, noF_dat, noF_no, noF_lst, noF_dK, ↓sK_j, ↓xE_callS, ↓xE_lc, ↓xE_lc2, ↓xE_callL, ↓rvA_d, ↓tw2_t, ↓sN_0, ↓sN_s, ↓xE_lrg, ↓xE_trg, ↓xE_pop, ↓xE_idxL, ↓sT_s, ↓xE_idxT, ↓xE_dget, ↓xE_din, ↓xE_dnin, ↓xE_dset, ↓xE_dspV, ↓xE_dspC, ↓xE_dspM, ↓tE_d, ↓xI_rng3, ↓xA_nil, ↓xA_cons, ↓xT_te, ↓xT_tb, ↓xT_nt, ↓xT_an, ↓xT_or, ↓xT_yes, ↓xT_lend, ↓xP_no, ↓xP_at, ↓xI_rng1, ↓xI_rng2, ↓xI_u, ↓xI_en, ↓xI_enl, ↓xG_nm, ↓xG_tup, ↓xGs_nil, ↓xGs_cons, ↓sV_d, ↓sV_n, ↓sV_w, ↓rV_d, ↓rV_n, ↓rV_w, ↓rV_o, ↓xS_set, ↓xS_asg, ↓xS_seti, ↓xS_app, ↓xS_newD, ↓xS_dput, ↓xS_drop, ↓xS_dropX, ↓xS_raise, ↓xS_tryC, ↓xS_ret, ↓xS_retN, ↓xS_iff, ↓xS_for, ↓xS_wh, ↓xS_brk, ↓xS_cont, ↓xS_nx, ↓xS_seq, ↓xS_fz, ↓fzK_l, ↓fzK_d, ↓fzK_n, ↓fzK_D, ↓kS_nx, ↓kS_rt, ↓kS_bk, ↓kS_ct, ↓out1_rt, ↓out2_rt, ↓xE_allIn, ↓xE_inC, ↓xE_isB, ↓strD_s, ↓xE_callT, ↓xE_callLam, ↓xE_xin, ↓xE_xget, ↓xE_xdc, ↓xE_xd1, ↓xE_srK, ↓xE_hasX, ↓xE_srts, ↓xS_newX, ↓xS_xput, ↓eT_l, noF_dT, ↓lamV_d
, ↓xE_anyNe, ↓xI_zp, ↓zpD_t, ↓xS_asgXn, ↓xS_asgXt, ↓yV_d, ↓u_c_freest, ↓pK_s P, foldT_tr, kd, so, hs, ↓lK_s G]
open PySem.W in
theorem toksE : ∀ s : List Entry, keyToksAll (s.map enE) = (s.flatMap fun e => match e with | none => [.inl 1, .inl 0] | some (v, u) => [.inl 1, .inl 1, .inl v, .inl 1, .inl u, .inl 0]) ++ [.inl 0]
  | [] => rfl
  | none :: s => by
    rw [List.map_cons, keyToksAll, toksE s, List.flatMap_cons]
    simp [enE, keyToks, keyToksAll]
  | some (v, u) :: s => by
    rw [List.map_cons, keyToksAll, toksE s, List.flatMap_cons]
    simp [enE, keyToks, keyToksAll]
open PySem.W in
theorem toks_inj : ∀ {s t : List Entry}, keyToksAll (s.map enE) = keyToksAll (t.map enE) → s = t := by
  intro s
  induction s with
  | nil =>
    intro t h
    cases t with
    | nil => rfl
    | cons b t =>
      rw [toksE, toksE] at h
      cases b <;> simp at h
  | cons a s ih =>
    intro t h
    cases t with
    | nil =>
      rw [toksE, toksE] at h
      cases a <;> simp at h
    | cons b t =>
      have hs := @ih t
      rw [toksE, toksE] at h hs
      rw [List.flatMap_cons, List.flatMap_cons] at h
      cases a with
      | none =>
        cases b with
        | none =>
          simp only [List.cons_append, List.nil_append, List.cons.injEq, true_and] at h
          rw [hs h]
        | some q => simp at h
      | some p =>
        obtain ⟨v, u⟩ := p
        cases b with
        | none => simp at h
        | some q =>
          obtain ⟨v', u'⟩ := q
          simp only [List.cons_append, List.nil_append, List.cons.injEq, true_and, Sum.inl.injEq] at h
          rw [hs h.2.2, h.1, h.2.1]
theorem noTxE (s : List Entry) : noTx (kS s) = true := by
  unfold kS noTx
  induction s with
  | nil => rfl
  | cons e s ih =>
    rw [List.map_cons, noTxs, ih]
    cases e <;> rfl
theorem ded_kS : ∀ (xs L : List (List Entry)), (xs.map kS).foldl (fun L k => if k ∈ L then L else L ++ [k]) (L.map kS) = (xs.foldl (fun L s => if s ∈ L then L else L ++ [s]) L).map kS
  | [], L => rfl
  | s :: xs, L => by
    rw [List.map_cons, List.foldl_cons, List.foldl_cons]
    have m : kS s ∈ L.map kS ↔ s ∈ L := by
      rw [List.mem_map]
      exact ⟨fun ⟨t, mt, e⟩ => kS_inj.mp e ▸ mt, fun h => ⟨s, h, rfl⟩⟩
    by_cases h : s ∈ L
    · rw [if_pos (m.mpr h), if_pos h, ded_kS xs L]
    · rw [if_neg fun z => h (m.mp z), if_neg h, ← ded_kS xs (L ++ [s]), List.map_append]
      rfl
theorem srts_eq {xs : List (List Entry)} (h1 : ∀ s ∈ xs, 1 ≤ s.length) (hz : xs.length < 64) : srtsV (xs.map standD) = some ((slS xs).map standD) := by
  unfold srtsV
  rw [tks_S]
  show (if _ then _ else _) = _
  rw [if_pos ⟨by
    rw [List.all_map]
    exact List.all_eq_true.mpr fun s _ => noTxE s, by rw [List.length_map]; exact hz, srt_ok h1, fun a ma b mb e => by
    obtain ⟨s, _, rfl⟩ := List.mem_map.mp ma
    obtain ⟨t, _, rfl⟩ := List.mem_map.mp mb
    rw [kS_data, kS_data] at e
    have e : PySem.W.keyToksAll (s.map enE) = PySem.W.keyToksAll (t.map enE) := by simpa [standD, PySem.W.keyToks] using e
    rw [toks_inj e]⟩]
  congr 1
  unfold srtsD
  have d : dedN (xs.map kS) = (ddS xs).map kS := ded_kS xs []
  rw [d]
  have m : (((ddS xs).map kS).mergeSort leN).map NestedKey.data = (((ddS xs).map kS).map NestedKey.data).mergeSort (PySem.W.dataLe false id) := List.map_mergeSort fun a _ b _ => rfl
  rw [m, List.map_map]
  have e : (NestedKey.data ∘ kS) = standD := funext kS_data
  rw [e]
  exact (slS_eq xs).1
theorem oZ_neS2 {β : Type} {s t : List Entry} {kz : Rz → Option β} : oZ .ne (standD s) (standD t) kz = kz (.d (.bool (!decide (s = t)))) := by
  rw [oZ_ne (shStand s) (shStand t), eqvS]
theorem l_freest_eq {xs : List (List Entry)} {h : Nat} (hx : ∀ s ∈ xs, s.length = h) (hh : 1 ≤ h ∧ h ≤ 4) (hz : xs.length < 64) : f_l_freest [.list (xs.map standD)] = some (.new (.lst (((slS xs).filter (minP xs)).map standD))) := by
  have sv := srts_eq (fun s m => by rw [hx s m]; exact hh.1) hz
  have hSL : ∀ s, s ∈ slS xs → s ∈ xs := fun s m => mem_dd.mp ((slS_eq xs).2.mem_iff.mp m)
  have lx : (xs.map standD).length < sizeLine := by rw [List.length_map, sizeLine_eq]; omega
  have loop : ∀ (l found : List (List Entry)) (e2 : Ent), (∀ s ∈ l, s ∈ xs) → found.length + l.length ≤ 1000 → ∃ f2, forGo (trn [] (.nm 2) b_l_freest_3) (l.map standD) [.dat (.list (xs.map standD)), .own (.lst (found.map standD)), e2, .no] = some (.nx [.dat (.list (xs.map standD)), .own (.lst ((found ++ l.filter (minP xs)).map standD)), f2, .no]) := by
    intro l
    induction l with
    | nil => intro found e2 _ _; exact ⟨e2, by rw [List.filter_nil, List.append_nil]; rfl⟩
    | cons s l ih =>
      intro found e2 hl hf
      rw [List.length_cons] at hf
      have ms := hl s List.mem_cons_self
      have G : lcGo (ltn [] 3 .yes e_l_freest_1) (xs.map standD) [.dat (.list (xs.map standD)), .own (.lst (found.map standD)), .dat (standD s), .no] = some ((xs.map fun t => !decide (t = s) && frB t s).map .bool, [.dat (.list (xs.map standD)), .own (.lst (found.map standD)), .dat (standD s), .no]) := by
        rw [List.map_map]
        refine lc_map _ _ fun t m => ?_
        have K : ∀ {β : Type} (kv : Vl → Option β), cK f_l_freer [standD t, standD s] kv = kv (.d (.bool (frB t s))) := fun kv => cK_s (l_freer_eq (by rw [hx t m, hx s ms]) (by rw [hx s ms]; exact hh.2))
        rw [ltn_x]
        by_cases q : t = s
        · have d := decide_eq_true q
          simp (config := { implicitDefEqProofs := false }) (disch := walk_at "side") only [↓reduceIte, decide_eq_true_eq, decide_true, decide_false, Bool.not_true, Bool.not_false, Bool.false_eq_true, Int.reduceEq, Int.reduceLT, Int.reduceLE, Int.reduceNeg, Int.reduceToNat, ↓okI, ↓okI2, ↓aV_d, ↓aV_o, ↓aV_n, ↓aV_w, ↓dV_d, ↓dV_wD, ↓aV_wD, ↓dO_d, ↓kV_w, ↓xE_dinD, ↓xE_dninD, ↓xE_dgetD, ↓xE_fnv, ↓xE_callF, ↓xE_callE, ↓xE_isaT, ↓xE_dspb, ↓xI_ukd, ↓xS_retD, ↓xS_fzD, ↓fzKD_D, ↓fzKD_d, ↓dV_n, ↓dV_w, ↓gE_0, ↓gE_s, ↓eL_l, ↓eD_l, ↓eV_d, ↓eV_l, ↓nA_d, ↓nA_o, ↓iD_i, ↓bD_b, ↓kD_i, ↓kD_s, ↓zD_d, ↓vZ_d, ↓vZ_n, ↓sR_0, ↓sR_s, ↓sK_n, ↓sK_0, ↓lD_l, ↓sD_l, ↓sD_t, ↓tD_t, ↓dA_nil, ↓dA_d, ↓dN_nil, ↓dN_c, ↓oZ_addI, ↓oZ_addS, ↓oZ_addT, ↓oZ_addL, ↓oZ_sub, ↓oZ_mul, ↓oZ_mulT, ↓oZ_mulL, ↓oZ_fdiv, ↓oZ_mod, ↓oZ_pow, ↓oZ_eqI, ↓oZ_eqS, ↓oZ_neS, ↓oZ_neI, ↓oZ_lt, ↓oZ_le, ↓oZ_gt, ↓oZ_ge, ↓oZ_ixL, ↓oZ_ixT, ↓aI_0, ↓aI_1, ↓aI_2, ↓nI_0, ↓nI_1, ↓lS_0, ↓lS_s, ↓aI_int, ↓aI_str, ↓aI_row, ↓aI_b2, ↓aI_i1, ↓aI_i2, ↓aI_i3, ↓aI_i4, ↓aI_i5, ↓aI_i6, ↓oZ_abyz, ↓oZ_az, ↓cZ_lenLm, ↓cZ_lenTm, ↓cZ_lenP, ↓oZ_ixP, ↓sD_P, ↓cZ_lstP, ↓cZ_abs, ↓cZ_int, ↓cZ_intB, ↓cZ_tup, ↓cZ_lstL, ↓cZ_lstT, ↓cZ_all, ↓cZ_any, ↓cZ_max2, ↓cZ_min2, ↓cZ_sum, ↓cZ_sorted, ↓xE_int, ↓xE_bl, ↓xE_str, ↓xE_non, ↓xE_var, ↓xE_op, ↓xE_neg, ↓xE_nt, ↓xE_an, ↓xE_or, ↓xE_ch, ↓xE_isN, ↓xE_notN, ↓xE_ife, ↓xE_tup, ↓xE_lst, ↓xE_sl, ↓sl1_T, ↓sl1_L, ↓xE_cb, ↓xE_isa, ↓xE_call, ↓xE_callX, ↓xE_lget, ↓xE_srs, xE_revT, ↓xE_revL, ↓xE_sw, ↓s2D_s, ↓xB_sif, ↓xE_dget2, ↓xT_tl, ↓xI_ky, ↓xS_lk0, ↓xR_x, ↓xR_call, ↓xR_lst, ↓xR_e, ↓xB_ret, ↓xB_iff, ↓xS_tryK, ↓xS_never, ↓xS_mv0, ↓xS_aug, ↓eF_l, noF_nil, noF_dat, noF_no, noF_lst, noF_dK, ↓sK_j, ↓xE_callS, ↓xE_lc, ↓xE_lc2, ↓xE_callL, ↓rvA_d, ↓tw2_t, ↓sN_0, ↓sN_s, ↓xE_lrg, ↓xE_trg, ↓xE_pop, ↓xE_idxL, ↓sT_s, ↓xE_idxT, ↓xE_dget, ↓xE_din, ↓xE_dnin, ↓xE_dset, ↓xE_dspV, ↓xE_dspC, ↓xE_dspM, ↓tE_d, ↓xI_rng3, ↓xA_nil, ↓xA_cons, ↓xT_te, ↓xT_tb, ↓xT_nt, ↓xT_an, ↓xT_or, ↓xT_yes, ↓xT_lend, ↓xP_no, ↓xP_at, ↓xI_rng1, ↓xI_rng2, ↓xI_u, ↓xI_en, ↓xI_enl, ↓xG_nm, ↓xG_tup, ↓xGs_nil, ↓xGs_cons, ↓sV_d, ↓sV_n, ↓sV_w, ↓rV_d, ↓rV_n, ↓rV_w, ↓rV_o, ↓xS_set, ↓xS_asg, ↓xS_seti, ↓xS_app, ↓xS_newD, ↓xS_dput, ↓xS_drop, ↓xS_dropX, ↓xS_raise, ↓xS_tryC, ↓xS_ret, ↓xS_retN, ↓xS_iff, ↓xS_for, ↓xS_wh, ↓xS_brk, ↓xS_cont, ↓xS_nx, ↓xS_seq, ↓xS_fz, ↓fzK_l, ↓fzK_d, ↓fzK_n, ↓fzK_D, ↓kS_nx, ↓kS_rt, ↓kS_bk, ↓kS_ct, ↓out1_rt, ↓out2_rt, ↓xE_allIn, ↓xE_inC, ↓xE_isB, ↓strD_s, ↓xE_callT, ↓xE_callLam, ↓xE_xin, ↓xE_xget, ↓xE_xdc, ↓xE_xd1, ↓xE_srK, ↓xE_hasX, ↓xE_srts, ↓xS_newX, ↓xS_xput, ↓eT_l, noF_dT, ↓lamV_d
, ↓xE_anyNe, ↓xI_zp, ↓zpD_t, ↓xS_asgXn, ↓xS_asgXt, ↓yV_d, ↓u_e_l_freest_1, ↓oZ_neS2, d, Bool.not_true, Bool.false_eq_true]
          simp [d]
        · have d := decide_eq_false q
          simp (config := { implicitDefEqProofs := false }) (disch := walk_at "side") only [↓reduceIte, decide_eq_true_eq, decide_true, decide_false, Bool.not_true, Bool.not_false, Bool.false_eq_true, Int.reduceEq, Int.reduceLT, Int.reduceLE, Int.reduceNeg, Int.reduceToNat, ↓okI, ↓okI2, ↓aV_d, ↓aV_o, ↓aV_n, ↓aV_w, ↓dV_d, ↓dV_wD, ↓aV_wD, ↓dO_d, ↓kV_w, ↓xE_dinD, ↓xE_dninD, ↓xE_dgetD, ↓xE_fnv, ↓xE_callF, ↓xE_callE, ↓xE_isaT, ↓xE_dspb, ↓xI_ukd, ↓xS_retD, ↓xS_fzD, ↓fzKD_D, ↓fzKD_d, ↓dV_n, ↓dV_w, ↓gE_0, ↓gE_s, ↓eL_l, ↓eD_l, ↓eV_d, ↓eV_l, ↓nA_d, ↓nA_o, ↓iD_i, ↓bD_b, ↓kD_i, ↓kD_s, ↓zD_d, ↓vZ_d, ↓vZ_n, ↓sR_0, ↓sR_s, ↓sK_n, ↓sK_0, ↓lD_l, ↓sD_l, ↓sD_t, ↓tD_t, ↓dA_nil, ↓dA_d, ↓dN_nil, ↓dN_c, ↓oZ_addI, ↓oZ_addS, ↓oZ_addT, ↓oZ_addL, ↓oZ_sub, ↓oZ_mul, ↓oZ_mulT, ↓oZ_mulL, ↓oZ_fdiv, ↓oZ_mod, ↓oZ_pow, ↓oZ_eqI, ↓oZ_eqS, ↓oZ_neS, ↓oZ_neI, ↓oZ_lt, ↓oZ_le, ↓oZ_gt, ↓oZ_ge, ↓oZ_ixL, ↓oZ_ixT, ↓aI_0, ↓aI_1, ↓aI_2, ↓nI_0, ↓nI_1, ↓lS_0, ↓lS_s, ↓aI_int, ↓aI_str, ↓aI_row, ↓aI_b2, ↓aI_i1, ↓aI_i2, ↓aI_i3, ↓aI_i4, ↓aI_i5, ↓aI_i6, ↓oZ_abyz, ↓oZ_az, ↓cZ_lenLm, ↓cZ_lenTm, ↓cZ_lenP, ↓oZ_ixP, ↓sD_P, ↓cZ_lstP, ↓cZ_abs, ↓cZ_int, ↓cZ_intB, ↓cZ_tup, ↓cZ_lstL, ↓cZ_lstT, ↓cZ_all, ↓cZ_any, ↓cZ_max2, ↓cZ_min2, ↓cZ_sum, ↓cZ_sorted, ↓xE_int, ↓xE_bl, ↓xE_str, ↓xE_non, ↓xE_var, ↓xE_op, ↓xE_neg, ↓xE_nt, ↓xE_an, ↓xE_or, ↓xE_ch, ↓xE_isN, ↓xE_notN, ↓xE_ife, ↓xE_tup, ↓xE_lst, ↓xE_sl, ↓sl1_T, ↓sl1_L, ↓xE_cb, ↓xE_isa, ↓xE_call, ↓xE_callX, ↓xE_lget, ↓xE_srs, xE_revT, ↓xE_revL, ↓xE_sw, ↓s2D_s, ↓xB_sif, ↓xE_dget2, ↓xT_tl, ↓xI_ky, ↓xS_lk0, ↓xR_x, ↓xR_call, ↓xR_lst, ↓xR_e, ↓xB_ret, ↓xB_iff, ↓xS_tryK, ↓xS_never, ↓xS_mv0, ↓xS_aug, ↓eF_l, noF_nil, noF_dat, noF_no, noF_lst, noF_dK, ↓sK_j, ↓xE_callS, ↓xE_lc, ↓xE_lc2, ↓xE_callL, ↓rvA_d, ↓tw2_t, ↓sN_0, ↓sN_s, ↓xE_lrg, ↓xE_trg, ↓xE_pop, ↓xE_idxL, ↓sT_s, ↓xE_idxT, ↓xE_dget, ↓xE_din, ↓xE_dnin, ↓xE_dset, ↓xE_dspV, ↓xE_dspC, ↓xE_dspM, ↓tE_d, ↓xI_rng3, ↓xA_nil, ↓xA_cons, ↓xT_te, ↓xT_tb, ↓xT_nt, ↓xT_an, ↓xT_or, ↓xT_yes, ↓xT_lend, ↓xP_no, ↓xP_at, ↓xI_rng1, ↓xI_rng2, ↓xI_u, ↓xI_en, ↓xI_enl, ↓xG_nm, ↓xG_tup, ↓xGs_nil, ↓xGs_cons, ↓sV_d, ↓sV_n, ↓sV_w, ↓rV_d, ↓rV_n, ↓rV_w, ↓rV_o, ↓xS_set, ↓xS_asg, ↓xS_seti, ↓xS_app, ↓xS_newD, ↓xS_dput, ↓xS_drop, ↓xS_dropX, ↓xS_raise, ↓xS_tryC, ↓xS_ret, ↓xS_retN, ↓xS_iff, ↓xS_for, ↓xS_wh, ↓xS_brk, ↓xS_cont, ↓xS_nx, ↓xS_seq, ↓xS_fz, ↓fzK_l, ↓fzK_d, ↓fzK_n, ↓fzK_D, ↓kS_nx, ↓kS_rt, ↓kS_bk, ↓kS_ct, ↓out1_rt, ↓out2_rt, ↓xE_allIn, ↓xE_inC, ↓xE_isB, ↓strD_s, ↓xE_callT, ↓xE_callLam, ↓xE_xin, ↓xE_xget, ↓xE_xdc, ↓xE_xd1, ↓xE_srK, ↓xE_hasX, ↓xE_srts, ↓xS_newX, ↓xS_xput, ↓eT_l, noF_dT, ↓lamV_d
, ↓xE_anyNe, ↓xI_zp, ↓zpD_t, ↓xS_asgXn, ↓xS_asgXt, ↓yV_d, ↓u_e_l_freest_1, ↓oZ_neS2, d, Bool.not_false, ↓K]
          simp [d]
      have any : (xs.map fun t => !decide (t = s) && frB t s).any id = xs.any fun t => !decide (t = s) && frB t s := by rw [List.any_map]; rfl
      have zf : (found.map standD).length < sizeLine := by rw [List.length_map, sizeLine_eq]; omega
      cases mp : minP xs s with
      | true =>
        have an : (xs.any fun t => !decide (t = s) && frB t s) = false := by
          have : (!(xs.any fun t => !decide (t = s) && frB t s)) = true := mp
          simpa using this
        obtain ⟨f2, T⟩ := ih (found ++ [s]) (.dat (standD s)) (fun t m => hl t (List.mem_cons_of_mem _ m)) (by rw [List.length_append, List.length_singleton]; omega)
        refine ⟨f2, ?_⟩
        have O : trn [] (.nm 2) b_l_freest_3 (standD s) [.dat (.list (xs.map standD)), .own (.lst (found.map standD)), e2, .no] = some (.nx [.dat (.list (xs.map standD)), .own (.lst ((found ++ [s]).map standD)), .dat (standD s), .no]) := by
          rw [trn_x]
          simp (config := { implicitDefEqProofs := false }) (disch := walk_at "side") only [↓reduceIte, decide_eq_true_eq, decide_true, decide_false, Bool.not_true, Bool.not_false, Bool.false_eq_true, Int.reduceEq, Int.reduceLT, Int.reduceLE, Int.reduceNeg, Int.reduceToNat, ↓okI, ↓okI2, ↓aV_d, ↓aV_o, ↓aV_n, ↓aV_w, ↓dV_d, ↓dV_wD, ↓aV_wD, ↓dO_d, ↓kV_w, ↓xE_dinD, ↓xE_dninD, ↓xE_dgetD, ↓xE_fnv, ↓xE_callF, ↓xE_callE, ↓xE_isaT, ↓xE_dspb, ↓xI_ukd, ↓xS_retD, ↓xS_fzD, ↓fzKD_D, ↓fzKD_d, ↓dV_n, ↓dV_w, ↓gE_0, ↓gE_s, ↓eL_l, ↓eD_l, ↓eV_d, ↓eV_l, ↓nA_d, ↓nA_o, ↓iD_i, ↓bD_b, ↓kD_i, ↓kD_s, ↓zD_d, ↓vZ_d, ↓vZ_n, ↓sR_0, ↓sR_s, ↓sK_n, ↓sK_0, ↓lD_l, ↓sD_l, ↓sD_t, ↓tD_t, ↓dA_nil, ↓dA_d, ↓dN_nil, ↓dN_c, ↓oZ_addI, ↓oZ_addS, ↓oZ_addT, ↓oZ_addL, ↓oZ_sub, ↓oZ_mul, ↓oZ_mulT, ↓oZ_mulL, ↓oZ_fdiv, ↓oZ_mod, ↓oZ_pow, ↓oZ_eqI, ↓oZ_eqS, ↓oZ_neS, ↓oZ_neI, ↓oZ_lt, ↓oZ_le, ↓oZ_gt, ↓oZ_ge, ↓oZ_ixL, ↓oZ_ixT, ↓aI_0, ↓aI_1, ↓aI_2, ↓nI_0, ↓nI_1, ↓lS_0, ↓lS_s, ↓aI_int, ↓aI_str, ↓aI_row, ↓aI_b2, ↓aI_i1, ↓aI_i2, ↓aI_i3, ↓aI_i4, ↓aI_i5, ↓aI_i6, ↓oZ_abyz, ↓oZ_az, ↓cZ_lenLm, ↓cZ_lenTm, ↓cZ_lenP, ↓oZ_ixP, ↓sD_P, ↓cZ_lstP, ↓cZ_abs, ↓cZ_int, ↓cZ_intB, ↓cZ_tup, ↓cZ_lstL, ↓cZ_lstT, ↓cZ_all, ↓cZ_any, ↓cZ_max2, ↓cZ_min2, ↓cZ_sum, ↓cZ_sorted, ↓xE_int, ↓xE_bl, ↓xE_str, ↓xE_non, ↓xE_var, ↓xE_op, ↓xE_neg, ↓xE_nt, ↓xE_an, ↓xE_or, ↓xE_ch, ↓xE_isN, ↓xE_notN, ↓xE_ife, ↓xE_tup, ↓xE_lst, ↓xE_sl, ↓sl1_T, ↓sl1_L, ↓xE_cb, ↓xE_isa, ↓xE_call, ↓xE_callX, ↓xE_lget, ↓xE_srs, xE_revT, ↓xE_revL, ↓xE_sw, ↓s2D_s, ↓xB_sif, ↓xE_dget2, ↓xT_tl, ↓xI_ky, ↓xS_lk0, ↓xR_x, ↓xR_call, ↓xR_lst, ↓xR_e, ↓xB_ret, ↓xB_iff, ↓xS_tryK, ↓xS_never, ↓xS_mv0, ↓xS_aug, ↓eF_l, noF_nil, noF_dat, noF_no, noF_lst, noF_dK, ↓sK_j, ↓xE_callS, ↓xE_lc, ↓xE_lc2, ↓xE_callL, ↓rvA_d, ↓tw2_t, ↓sN_0, ↓sN_s, ↓xE_lrg, ↓xE_trg, ↓xE_pop, ↓xE_idxL, ↓sT_s, ↓xE_idxT, ↓xE_dget, ↓xE_din, ↓xE_dnin, ↓xE_dset, ↓xE_dspV, ↓xE_dspC, ↓xE_dspM, ↓tE_d, ↓xI_rng3, ↓xA_nil, ↓xA_cons, ↓xT_te, ↓xT_tb, ↓xT_nt, ↓xT_an, ↓xT_or, ↓xT_yes, ↓xT_lend, ↓xP_no, ↓xP_at, ↓xI_rng1, ↓xI_rng2, ↓xI_u, ↓xI_en, ↓xI_enl, ↓xG_nm, ↓xG_tup, ↓xGs_nil, ↓xGs_cons, ↓sV_d, ↓sV_n, ↓sV_w, ↓rV_d, ↓rV_n, ↓rV_w, ↓rV_o, ↓xS_set, ↓xS_asg, ↓xS_seti, ↓xS_app, ↓xS_newD, ↓xS_dput, ↓xS_drop, ↓xS_dropX, ↓xS_raise, ↓xS_tryC, ↓xS_ret, ↓xS_retN, ↓xS_iff, ↓xS_for, ↓xS_wh, ↓xS_brk, ↓xS_cont, ↓xS_nx, ↓xS_seq, ↓xS_fz, ↓fzK_l, ↓fzK_d, ↓fzK_n, ↓fzK_D, ↓kS_nx, ↓kS_rt, ↓kS_bk, ↓kS_ct, ↓out1_rt, ↓out2_rt, ↓xE_allIn, ↓xE_inC, ↓xE_isB, ↓strD_s, ↓xE_callT, ↓xE_callLam, ↓xE_xin, ↓xE_xget, ↓xE_xdc, ↓xE_xd1, ↓xE_srK, ↓xE_hasX, ↓xE_srts, ↓xS_newX, ↓xS_xput, ↓eT_l, noF_dT, ↓lamV_d
, ↓xE_anyNe, ↓xI_zp, ↓zpD_t, ↓xS_asgXn, ↓xS_asgXt, ↓yV_d, ↓u_b_l_freest_3, ↓lK_s G, any, an, Bool.not_false]
          rw [List.map_append]
          rfl
        show (trn [] (.nm 2) b_l_freest_3 (standD s) _).bind _ = _
        rw [O]
        show forGo _ (l.map standD) _ = _
        rw [T, List.filter_cons_of_pos mp, List.append_assoc]
        rfl
      | false =>
        have an : (xs.any fun t => !decide (t = s) && frB t s) = true := by
          have : (!(xs.any fun t => !decide (t = s) && frB t s)) = false := mp
          simpa using this
        obtain ⟨f2, T⟩ := ih found (.dat (standD s)) (fun t m => hl t (List.mem_cons_of_mem _ m)) (by omega)
        refine ⟨f2, ?_⟩
        have O : trn [] (.nm 2) b_l_freest_3 (standD s) [.dat (.list (xs.map standD)), .own (.lst (found.map standD)), e2, .no] = some (.nx [.dat (.list (xs.map standD)), .own (.lst (found.map standD)), .dat (standD s), .no]) := by
          rw [trn_x]
          simp (config := { implicitDefEqProofs := false }) (disch := walk_at "side") only [↓reduceIte, decide_eq_true_eq, decide_true, decide_false, Bool.not_true, Bool.not_false, Bool.false_eq_true, Int.reduceEq, Int.reduceLT, Int.reduceLE, Int.reduceNeg, Int.reduceToNat, ↓okI, ↓okI2, ↓aV_d, ↓aV_o, ↓aV_n, ↓aV_w, ↓dV_d, ↓dV_wD, ↓aV_wD, ↓dO_d, ↓kV_w, ↓xE_dinD, ↓xE_dninD, ↓xE_dgetD, ↓xE_fnv, ↓xE_callF, ↓xE_callE, ↓xE_isaT, ↓xE_dspb, ↓xI_ukd, ↓xS_retD, ↓xS_fzD, ↓fzKD_D, ↓fzKD_d, ↓dV_n, ↓dV_w, ↓gE_0, ↓gE_s, ↓eL_l, ↓eD_l, ↓eV_d, ↓eV_l, ↓nA_d, ↓nA_o, ↓iD_i, ↓bD_b, ↓kD_i, ↓kD_s, ↓zD_d, ↓vZ_d, ↓vZ_n, ↓sR_0, ↓sR_s, ↓sK_n, ↓sK_0, ↓lD_l, ↓sD_l, ↓sD_t, ↓tD_t, ↓dA_nil, ↓dA_d, ↓dN_nil, ↓dN_c, ↓oZ_addI, ↓oZ_addS, ↓oZ_addT, ↓oZ_addL, ↓oZ_sub, ↓oZ_mul, ↓oZ_mulT, ↓oZ_mulL, ↓oZ_fdiv, ↓oZ_mod, ↓oZ_pow, ↓oZ_eqI, ↓oZ_eqS, ↓oZ_neS, ↓oZ_neI, ↓oZ_lt, ↓oZ_le, ↓oZ_gt, ↓oZ_ge, ↓oZ_ixL, ↓oZ_ixT, ↓aI_0, ↓aI_1, ↓aI_2, ↓nI_0, ↓nI_1, ↓lS_0, ↓lS_s, ↓aI_int, ↓aI_str, ↓aI_row, ↓aI_b2, ↓aI_i1, ↓aI_i2, ↓aI_i3, ↓aI_i4, ↓aI_i5, ↓aI_i6, ↓oZ_abyz, ↓oZ_az, ↓cZ_lenLm, ↓cZ_lenTm, ↓cZ_lenP, ↓oZ_ixP, ↓sD_P, ↓cZ_lstP, ↓cZ_abs, ↓cZ_int, ↓cZ_intB, ↓cZ_tup, ↓cZ_lstL, ↓cZ_lstT, ↓cZ_all, ↓cZ_any, ↓cZ_max2, ↓cZ_min2, ↓cZ_sum, ↓cZ_sorted, ↓xE_int, ↓xE_bl, ↓xE_str, ↓xE_non, ↓xE_var, ↓xE_op, ↓xE_neg, ↓xE_nt, ↓xE_an, ↓xE_or, ↓xE_ch, ↓xE_isN, ↓xE_notN, ↓xE_ife, ↓xE_tup, ↓xE_lst, ↓xE_sl, ↓sl1_T, ↓sl1_L, ↓xE_cb, ↓xE_isa, ↓xE_call, ↓xE_callX, ↓xE_lget, ↓xE_srs, xE_revT, ↓xE_revL, ↓xE_sw, ↓s2D_s, ↓xB_sif, ↓xE_dget2, ↓xT_tl, ↓xI_ky, ↓xS_lk0, ↓xR_x, ↓xR_call, ↓xR_lst, ↓xR_e, ↓xB_ret, ↓xB_iff, ↓xS_tryK, ↓xS_never, ↓xS_mv0, ↓xS_aug, ↓eF_l, noF_nil, noF_dat, noF_no, noF_lst, noF_dK, ↓sK_j, ↓xE_callS, ↓xE_lc, ↓xE_lc2, ↓xE_callL, ↓rvA_d, ↓tw2_t, ↓sN_0, ↓sN_s, ↓xE_lrg, ↓xE_trg, ↓xE_pop, ↓xE_idxL, ↓sT_s, ↓xE_idxT, ↓xE_dget, ↓xE_din, ↓xE_dnin, ↓xE_dset, ↓xE_dspV, ↓xE_dspC, ↓xE_dspM, ↓tE_d, ↓xI_rng3, ↓xA_nil, ↓xA_cons, ↓xT_te, ↓xT_tb, ↓xT_nt, ↓xT_an, ↓xT_or, ↓xT_yes, ↓xT_lend, ↓xP_no, ↓xP_at, ↓xI_rng1, ↓xI_rng2, ↓xI_u, ↓xI_en, ↓xI_enl, ↓xG_nm, ↓xG_tup, ↓xGs_nil, ↓xGs_cons, ↓sV_d, ↓sV_n, ↓sV_w, ↓rV_d, ↓rV_n, ↓rV_w, ↓rV_o, ↓xS_set, ↓xS_asg, ↓xS_seti, ↓xS_app, ↓xS_newD, ↓xS_dput, ↓xS_drop, ↓xS_dropX, ↓xS_raise, ↓xS_tryC, ↓xS_ret, ↓xS_retN, ↓xS_iff, ↓xS_for, ↓xS_wh, ↓xS_brk, ↓xS_cont, ↓xS_nx, ↓xS_seq, ↓xS_fz, ↓fzK_l, ↓fzK_d, ↓fzK_n, ↓fzK_D, ↓kS_nx, ↓kS_rt, ↓kS_bk, ↓kS_ct, ↓out1_rt, ↓out2_rt, ↓xE_allIn, ↓xE_inC, ↓xE_isB, ↓strD_s, ↓xE_callT, ↓xE_callLam, ↓xE_xin, ↓xE_xget, ↓xE_xdc, ↓xE_xd1, ↓xE_srK, ↓xE_hasX, ↓xE_srts, ↓xS_newX, ↓xS_xput, ↓eT_l, noF_dT, ↓lamV_d
, ↓xE_anyNe, ↓xI_zp, ↓zpD_t, ↓xS_asgXn, ↓xS_asgXt, ↓yV_d, ↓u_b_l_freest_3, ↓lK_s G, any, an, Bool.not_true, Bool.false_eq_true]
        show (trn [] (.nm 2) b_l_freest_3 (standD s) _).bind _ = _
        rw [O]
        show forGo _ (l.map standD) _ = _
        rw [T, List.filter_cons_of_neg (by rw [mp]; decide)]
  have lsl : (slS xs).length ≤ xs.length := by
    have dl := dd_len xs []
    rw [(slS_eq xs).2.length_eq]
    unfold ddS
    simpa using dl
  obtain ⟨f2, T⟩ := loop (slS xs) [] .no hSL (by rw [List.length_nil]; omega)
  rw [List.nil_append] at T
  have e0 : ([] : List (List Entry)).map standD = [] := rfl
  rw [e0] at T
  rw [x_l_freest]
  simp (config := { implicitDefEqProofs := false }) (disch := walk_at "side") only [↓reduceIte, decide_eq_true_eq, decide_true, decide_false, Bool.not_true, Bool.not_false, Bool.false_eq_true, Int.reduceEq, Int.reduceLT, Int.reduceLE, Int.reduceNeg, Int.reduceToNat, ↓okI, ↓okI2, ↓aV_d, ↓aV_o, ↓aV_n, ↓aV_w, ↓dV_d, ↓dV_wD, ↓aV_wD, ↓dO_d, ↓kV_w, ↓xE_dinD, ↓xE_dninD, ↓xE_dgetD, ↓xE_fnv, ↓xE_callF, ↓xE_callE, ↓xE_isaT, ↓xE_dspb, ↓xI_ukd, ↓xS_retD, ↓xS_fzD, ↓fzKD_D, ↓fzKD_d, ↓dV_n, ↓dV_w, ↓gE_0, ↓gE_s, ↓eL_l, ↓eD_l, ↓eV_d, ↓eV_l, ↓nA_d, ↓nA_o, ↓iD_i, ↓bD_b, ↓kD_i, ↓kD_s, ↓zD_d, ↓vZ_d, ↓vZ_n, ↓sR_0, ↓sR_s, ↓sK_n, ↓sK_0, ↓lD_l, ↓sD_l, ↓sD_t, ↓tD_t, ↓dA_nil, ↓dA_d, ↓dN_nil, ↓dN_c, ↓oZ_addI, ↓oZ_addS, ↓oZ_addT, ↓oZ_addL, ↓oZ_sub, ↓oZ_mul, ↓oZ_mulT, ↓oZ_mulL, ↓oZ_fdiv, ↓oZ_mod, ↓oZ_pow, ↓oZ_eqI, ↓oZ_eqS, ↓oZ_neS, ↓oZ_neI, ↓oZ_lt, ↓oZ_le, ↓oZ_gt, ↓oZ_ge, ↓oZ_ixL, ↓oZ_ixT, ↓aI_0, ↓aI_1, ↓aI_2, ↓nI_0, ↓nI_1, ↓lS_0, ↓lS_s, ↓aI_int, ↓aI_str, ↓aI_row, ↓aI_b2, ↓aI_i1, ↓aI_i2, ↓aI_i3, ↓aI_i4, ↓aI_i5, ↓aI_i6, ↓oZ_abyz, ↓oZ_az, ↓cZ_lenLm, ↓cZ_lenTm, ↓cZ_lenP, ↓oZ_ixP, ↓sD_P, ↓cZ_lstP, ↓cZ_abs, ↓cZ_int, ↓cZ_intB, ↓cZ_tup, ↓cZ_lstL, ↓cZ_lstT, ↓cZ_all, ↓cZ_any, ↓cZ_max2, ↓cZ_min2, ↓cZ_sum, ↓cZ_sorted, ↓xE_int, ↓xE_bl, ↓xE_str, ↓xE_non, ↓xE_var, ↓xE_op, ↓xE_neg, ↓xE_nt, ↓xE_an, ↓xE_or, ↓xE_ch, ↓xE_isN, ↓xE_notN, ↓xE_ife, ↓xE_tup, ↓xE_lst, ↓xE_sl, ↓sl1_T, ↓sl1_L, ↓xE_cb, ↓xE_isa, ↓xE_call, ↓xE_callX, ↓xE_lget, ↓xE_srs, xE_revT, ↓xE_revL, ↓xE_sw, ↓s2D_s, ↓xB_sif, ↓xE_dget2, ↓xT_tl, ↓xI_ky, ↓xS_lk0, ↓xR_x, ↓xR_call, ↓xR_lst, ↓xR_e, ↓xB_ret, ↓xB_iff, ↓xS_tryK, ↓xS_never, ↓xS_mv0, ↓xS_aug, ↓eF_l, noF_nil, noF_dat, noF_no, noF_lst, noF_dK, ↓sK_j, ↓xE_callS, ↓xE_lc, ↓xE_lc2, ↓xE_callL, ↓rvA_d, ↓tw2_t, ↓sN_0, ↓sN_s, ↓xE_lrg, ↓xE_trg, ↓xE_pop, ↓xE_idxL, ↓sT_s, ↓xE_idxT, ↓xE_dget, ↓xE_din, ↓xE_dnin, ↓xE_dset, ↓xE_dspV, ↓xE_dspC, ↓xE_dspM, ↓tE_d, ↓xI_rng3, ↓xA_nil, ↓xA_cons, ↓xT_te, ↓xT_tb, ↓xT_nt, ↓xT_an, ↓xT_or, ↓xT_yes, ↓xT_lend, ↓xP_no, ↓xP_at, ↓xI_rng1, ↓xI_rng2, ↓xI_u, ↓xI_en, ↓xI_enl, ↓xG_nm, ↓xG_tup, ↓xGs_nil, ↓xGs_cons, ↓sV_d, ↓sV_n, ↓sV_w, ↓rV_d, ↓rV_n, ↓rV_w, ↓rV_o, ↓xS_set, ↓xS_asg, ↓xS_seti, ↓xS_app, ↓xS_newD, ↓xS_dput, ↓xS_drop, ↓xS_dropX, ↓xS_raise, ↓xS_tryC, ↓xS_ret, ↓xS_retN, ↓xS_iff, ↓xS_for, ↓xS_wh, ↓xS_brk, ↓xS_cont, ↓xS_nx, ↓xS_seq, ↓xS_fz, ↓fzK_l, ↓fzK_d, ↓fzK_n, ↓fzK_D, ↓kS_nx, ↓kS_rt, ↓kS_bk, ↓kS_ct, ↓out1_rt, ↓out2_rt, ↓xE_allIn, ↓xE_inC, ↓xE_isB, ↓strD_s, ↓xE_callT, ↓xE_callLam, ↓xE_xin, ↓xE_xget, ↓xE_xdc, ↓xE_xd1, ↓xE_srK, ↓xE_hasX, ↓xE_srts, ↓xS_newX, ↓xS_xput, ↓eT_l, noF_dT, ↓lamV_d
, ↓xE_anyNe, ↓xI_zp, ↓zpD_t, ↓xS_asgXn, ↓xS_asgXt, ↓yV_d, ↓u_c_l_freest, ↓sZ_s sv, ↓fK_s T]
end CS
namespace CS
open PySem PySem.Spec PyProof.Rows L2 DL EV
local macro_rules | `(tactic| walk_at "side") => `(tactic| first | omega | (simp only [List.length_cons, List.length_nil, List.length_map, List.length_append, List.length_range, PySem.sizeLine_eq]; omega) | assumption | (simp; done))
theorem cut_dropO (ds : List D) (a : Nat) : DL.cutD ds (some ((a : Int) + 1)) none = ds.drop (a + 1) := by
  show DL.cutD ds (some ((a + 1 : Nat) : Int)) none = _
  generalize a + 1 = a
  unfold DL.cutD
  rw [HT.sIx_none, HT.sIx_nat]
  by_cases z : a ≤ ds.length
  · rw [Nat.min_eq_left z, List.take_of_length_le (by rw [List.length_drop]; omega)]
  · rw [Nat.min_eq_right (by omega), List.drop_eq_nil_of_le (by omega), List.drop_eq_nil_of_le (by omega), List.take_nil]
def ent29 (N : List Int) (k m : Int) : Entry := if nxt N (k + 1 + 1 + 1) 3 = 0 then none else if nxt N (k + 1 + 1 + 1) 3 = 1 then some (nxt N k m - 1, nxt N (k + 1) m - 1) else some (nxt N (k + 1 + 1) m - 1, -1)
theorem l_entry_eq {N : List Int} {k m : Int} (G : Good N) (h0 : 0 ≤ k) (h1 : k + 20 ≤ KMax) (hm : 0 < m) : f_l_entry (stAt N k) [.int m] = some (.dat (enE (ent29 N k m)), stAt N (k + 1 + 1 + 1 + 1)) := by
  have hK : KMax = 1000000000 := rfl
  have c0 := nxt_lo (N := N) (k := k + 1 + 1 + 1) (many := 3) (by omega)
  have c1 := nxt_hi (N := N) (k := k + 1 + 1 + 1) (many := 3) (by omega)
  have ac : ∀ {β : Type} (kd : D → Option β), aI [.tuple [], .tuple [.int (nxt N k m - 1), .int (nxt N (k + 1) m - 1)], .tuple [.int (nxt N (k + 1 + 1) m - 1), .int (-1)]] (nxt N (k + 1 + 1 + 1) 3) kd = kd (enE (ent29 N k m)) := fun kd => by
    unfold ent29
    generalize nxt N (k + 1 + 1 + 1) 3 = c at c0 c1
    have : c = 0 ∨ c = 1 ∨ c = 2 := by omega
    rcases this with rfl | rfl | rfl <;> rfl
  rw [x_l_entry]
  simp (config := { implicitDefEqProofs := false }) (disch := walk_at "side") only [↓reduceIte, decide_eq_true_eq, decide_true, decide_false, Bool.not_true, Bool.not_false, Bool.false_eq_true, Int.reduceEq, Int.reduceLT, Int.reduceLE, Int.reduceNeg, Int.reduceToNat, ↓okI, ↓okI2, ↓aV_d, ↓aV_o, ↓aV_n, ↓aV_w, ↓dV_d, ↓dV_wD, ↓aV_wD, ↓dO_d, ↓kV_w, ↓xE_dinD, ↓xE_dninD, ↓xE_dgetD, ↓xE_fnv, ↓xE_callF, ↓xE_callE, ↓xE_isaT, ↓xE_dspb, ↓xI_ukd, ↓xS_retD, ↓xS_fzD, ↓fzKD_D, ↓fzKD_d, ↓dV_n, ↓dV_w, ↓gE_0, ↓gE_s, ↓eL_l, ↓eD_l, ↓eV_d, ↓eV_l, ↓nA_d, ↓nA_o, ↓iD_i, ↓bD_b, ↓kD_i, ↓kD_s, ↓zD_d, ↓vZ_d, ↓vZ_n, ↓sR_0, ↓sR_s, ↓sK_n, ↓sK_0, ↓lD_l, ↓sD_l, ↓sD_t, ↓tD_t, ↓dA_nil, ↓dA_d, ↓dN_nil, ↓dN_c, ↓oZ_addI, ↓oZ_addS, ↓oZ_addT, ↓oZ_addL, ↓oZ_sub, ↓oZ_mul, ↓oZ_mulT, ↓oZ_mulL, ↓oZ_fdiv, ↓oZ_mod, ↓oZ_pow, ↓oZ_eqI, ↓oZ_eqS, ↓oZ_neS, ↓oZ_neI, ↓oZ_lt, ↓oZ_le, ↓oZ_gt, ↓oZ_ge, ↓oZ_ixL, ↓oZ_ixT, ↓aI_0, ↓aI_1, ↓aI_2, ↓nI_0, ↓nI_1, ↓lS_0, ↓lS_s, ↓aI_int, ↓aI_str, ↓aI_row, ↓aI_b2, ↓aI_i1, ↓aI_i2, ↓aI_i3, ↓aI_i4, ↓aI_i5, ↓aI_i6, ↓oZ_abyz, ↓oZ_az, ↓cZ_lenLm, ↓cZ_lenTm, ↓cZ_lenP, ↓oZ_ixP, ↓sD_P, ↓cZ_lstP, ↓cZ_abs, ↓cZ_int, ↓cZ_intB, ↓cZ_tup, ↓cZ_lstL, ↓cZ_lstT, ↓cZ_all, ↓cZ_any, ↓cZ_max2, ↓cZ_min2, ↓cZ_sum, ↓cZ_sorted, ↓xE_int, ↓xE_bl, ↓xE_str, ↓xE_non, ↓xE_var, ↓xE_op, ↓xE_neg, ↓xE_nt, ↓xE_an, ↓xE_or, ↓xE_ch, ↓xE_isN, ↓xE_notN, ↓xE_ife, ↓xE_tup, ↓xE_lst, ↓xE_sl, ↓sl1_T, ↓sl1_L, ↓xE_cb, ↓xE_isa, ↓xE_call, ↓xE_callX, ↓xE_lget, ↓xE_srs, xE_revT, ↓xE_revL, ↓xE_sw, ↓s2D_s, ↓xB_sif, ↓xE_dget2, ↓xT_tl, ↓xI_ky, ↓xS_lk0, ↓xR_x, ↓xR_call, ↓xR_lst, ↓xR_e, ↓xB_ret, ↓xB_iff, ↓xS_tryK, ↓xS_never, ↓xS_mv0, ↓xS_aug, ↓eF_l, noF_nil, noF_dat, noF_no, noF_lst, noF_dK, ↓sK_j, ↓xE_callS, ↓xE_lc, ↓xE_lc2, ↓xE_callL, ↓rvA_d, ↓tw2_t, ↓sN_0, ↓sN_s, ↓xE_lrg, ↓xE_trg, ↓xE_pop, ↓xE_idxL, ↓sT_s, ↓xE_idxT, ↓xE_dget, ↓xE_din, ↓xE_dnin, ↓xE_dset, ↓xE_dspV, ↓xE_dspC, ↓xE_dspM, ↓tE_d, ↓xI_rng3, ↓xA_nil, ↓xA_cons, ↓xT_te, ↓xT_tb, ↓xT_nt, ↓xT_an, ↓xT_or, ↓xT_yes, ↓xT_lend, ↓xP_no, ↓xP_at, ↓xI_rng1, ↓xI_rng2, ↓xI_u, ↓xI_en, ↓xI_enl, ↓xG_nm, ↓xG_tup, ↓xGs_nil, ↓xGs_cons, ↓sV_d, ↓sV_n, ↓sV_w, ↓rV_d, ↓rV_n, ↓rV_w, ↓rV_o, ↓xS_set, ↓xS_asg, ↓xS_seti, ↓xS_app, ↓xS_newD, ↓xS_dput, ↓xS_drop, ↓xS_dropX, ↓xS_raise, ↓xS_tryC, ↓xS_ret, ↓xS_retN, ↓xS_iff, ↓xS_for, ↓xS_wh, ↓xS_brk, ↓xS_cont, ↓xS_nx, ↓xS_seq, ↓xS_fz, ↓fzK_l, ↓fzK_d, ↓fzK_n, ↓fzK_D, ↓kS_nx, ↓kS_rt, ↓kS_bk, ↓kS_ct, ↓out1_rt, ↓out2_rt, ↓xE_allIn, ↓xE_inC, ↓xE_isB, ↓strD_s, ↓xE_callT, ↓xE_callLam, ↓xE_xin, ↓xE_xget, ↓xE_xdc, ↓xE_xd1, ↓xE_srK, ↓xE_hasX, ↓xE_srts, ↓xS_newX, ↓xS_xput, ↓eT_l, noF_dT, ↓lamV_d
, ↓xE_anyNe, ↓xI_zp, ↓zpD_t, ↓xS_asgXn, ↓xS_asgXt, ↓yV_d, ↓u_c_l_entry, ↓nextK, ↓ac]
theorem l_entryK {β : Type} {N : List Int} {k m : Int} {kv : Vl → List D → Option β} (G : Good N) (h0 : 0 ≤ k) (h1 : k + 20 ≤ KMax) (hm : 0 < m) : cKS f_l_entry (stAt N k) [.int m] kv = kv (.d (enE (ent29 N k m))) (stAt N (k + 1 + 1 + 1 + 1)) := cKS_s (l_entry_eq G h0 h1 hm)
def draw29 (N : List Int) (k m : Int) (h : Nat) : List Entry := (List.range h).map fun i => ent29 N (k + 4 * (i : Nat)) m
theorem draw_lc {N : List Int} {k m : Int} {h : Nat} {e0 e2 e3 e5 e6 e7 e8 e9 e10 e11 e12 e13 e14 e15 : Ent} (G : Good N) (h0 : 0 ≤ k) (h1 : k + 4 * (h : Nat) + 20 ≤ KMax) (hm : 0 < m) :
    lcGo (ltn [] 16 .yes e_law_16_3) (rgD 0 h) [e0, .own (.lst (stAt N k)), e2, e3, .dat (.int m), e5, e6, e7, e8, e9, e10, e11, e12, e13, e14, e15, .no] = some ((draw29 N k m h).map enE, [e0, .own (.lst (stAt N (k + 4 * (h : Nat)))), e2, e3, .dat (.int m), e5, e6, e7, e8, e9, e10, e11, e12, e13, e14, e15, .no]) := by
  have T := lc_inv0 (f := ltn [] 16 .yes e_law_16_3) (fun i : Nat => [e0, .own (.lst (stAt N (k + 4 * (i : Nat)))), e2, e3, .dat (.int m), e5, e6, e7, e8, e9, e10, e11, e12, e13, e14, e15, .no]) (fun i => enE (ent29 N (k + 4 * (i : Nat)) m)) (l := rgD 0 h) (ρ := [e0, .own (.lst (stAt N k)), e2, e3, .dat (.int m), e5, e6, e7, e8, e9, e10, e11, e12, e13, e14, e15, .no]) (ρ' := [e0, .own (.lst (stAt N (k + 4 * (h : Nat)))), e2, e3, .dat (.int m), e5, e6, e7, e8, e9, e10, e11, e12, e13, e14, e15, .no]) (by simp) (by simp only [rgD_len]) fun i hi => by
    rw [rgD_len] at hi
    have e : k + 4 * ((i + 1 : Nat) : Int) = k + 4 * (i : Nat) + 1 + 1 + 1 + 1 := by omega
    have b0 : 0 ≤ k + 4 * (i : Nat) := by omega
    have b1 : k + 4 * (i : Nat) + 20 ≤ KMax := by omega
    rw [rgD_at hi, ltn_x, e]
    generalize k + 4 * (i : Nat) = k' at b0 b1
    simp (config := { implicitDefEqProofs := false }) (disch := walk_at "side") only [↓reduceIte, decide_eq_true_eq, decide_true, decide_false, Bool.not_true, Bool.not_false, Bool.false_eq_true, Int.reduceEq, Int.reduceLT, Int.reduceLE, Int.reduceNeg, Int.reduceToNat, ↓okI, ↓okI2, ↓aV_d, ↓aV_o, ↓aV_n, ↓aV_w, ↓dV_d, ↓dV_wD, ↓aV_wD, ↓dO_d, ↓kV_w, ↓xE_dinD, ↓xE_dninD, ↓xE_dgetD, ↓xE_fnv, ↓xE_callF, ↓xE_callE, ↓xE_isaT, ↓xE_dspb, ↓xI_ukd, ↓xS_retD, ↓xS_fzD, ↓fzKD_D, ↓fzKD_d, ↓dV_n, ↓dV_w, ↓gE_0, ↓gE_s, ↓eL_l, ↓eD_l, ↓eV_d, ↓eV_l, ↓nA_d, ↓nA_o, ↓iD_i, ↓bD_b, ↓kD_i, ↓kD_s, ↓zD_d, ↓vZ_d, ↓vZ_n, ↓sR_0, ↓sR_s, ↓sK_n, ↓sK_0, ↓lD_l, ↓sD_l, ↓sD_t, ↓tD_t, ↓dA_nil, ↓dA_d, ↓dN_nil, ↓dN_c, ↓oZ_addI, ↓oZ_addS, ↓oZ_addT, ↓oZ_addL, ↓oZ_sub, ↓oZ_mul, ↓oZ_mulT, ↓oZ_mulL, ↓oZ_fdiv, ↓oZ_mod, ↓oZ_pow, ↓oZ_eqI, ↓oZ_eqS, ↓oZ_neS, ↓oZ_neI, ↓oZ_lt, ↓oZ_le, ↓oZ_gt, ↓oZ_ge, ↓oZ_ixL, ↓oZ_ixT, ↓aI_0, ↓aI_1, ↓aI_2, ↓nI_0, ↓nI_1, ↓lS_0, ↓lS_s, ↓aI_int, ↓aI_str, ↓aI_row, ↓aI_b2, ↓aI_i1, ↓aI_i2, ↓aI_i3, ↓aI_i4, ↓aI_i5, ↓aI_i6, ↓oZ_abyz, ↓oZ_az, ↓cZ_lenLm, ↓cZ_lenTm, ↓cZ_lenP, ↓oZ_ixP, ↓sD_P, ↓cZ_lstP, ↓cZ_abs, ↓cZ_int, ↓cZ_intB, ↓cZ_tup, ↓cZ_lstL, ↓cZ_lstT, ↓cZ_all, ↓cZ_any, ↓cZ_max2, ↓cZ_min2, ↓cZ_sum, ↓cZ_sorted, ↓xE_int, ↓xE_bl, ↓xE_str, ↓xE_non, ↓xE_var, ↓xE_op, ↓xE_neg, ↓xE_nt, ↓xE_an, ↓xE_or, ↓xE_ch, ↓xE_isN, ↓xE_notN, ↓xE_ife, ↓xE_tup, ↓xE_lst, ↓xE_sl, ↓sl1_T, ↓sl1_L, ↓xE_cb, ↓xE_isa, ↓xE_call, ↓xE_callX, ↓xE_lget, ↓xE_srs, xE_revT, ↓xE_revL, ↓xE_sw, ↓s2D_s, ↓xB_sif, ↓xE_dget2, ↓xT_tl, ↓xI_ky, ↓xS_lk0, ↓xR_x, ↓xR_call, ↓xR_lst, ↓xR_e, ↓xB_ret, ↓xB_iff, ↓xS_tryK, ↓xS_never, ↓xS_mv0, ↓xS_aug, ↓eF_l, noF_nil, noF_dat, noF_no, noF_lst, noF_dK, ↓sK_j, ↓xE_callS, ↓xE_lc, ↓xE_lc2, ↓xE_callL, ↓rvA_d, ↓tw2_t, ↓sN_0, ↓sN_s, ↓xE_lrg, ↓xE_trg, ↓xE_pop, ↓xE_idxL, ↓sT_s, ↓xE_idxT, ↓xE_dget, ↓xE_din, ↓xE_dnin, ↓xE_dset, ↓xE_dspV, ↓xE_dspC, ↓xE_dspM, ↓tE_d, ↓xI_rng3, ↓xA_nil, ↓xA_cons, ↓xT_te, ↓xT_tb, ↓xT_nt, ↓xT_an, ↓xT_or, ↓xT_yes, ↓xT_lend, ↓xP_no, ↓xP_at, ↓xI_rng1, ↓xI_rng2, ↓xI_u, ↓xI_en, ↓xI_enl, ↓xG_nm, ↓xG_tup, ↓xGs_nil, ↓xGs_cons, ↓sV_d, ↓sV_n, ↓sV_w, ↓rV_d, ↓rV_n, ↓rV_w, ↓rV_o, ↓xS_set, ↓xS_asg, ↓xS_seti, ↓xS_app, ↓xS_newD, ↓xS_dput, ↓xS_drop, ↓xS_dropX, ↓xS_raise, ↓xS_tryC, ↓xS_ret, ↓xS_retN, ↓xS_iff, ↓xS_for, ↓xS_wh, ↓xS_brk, ↓xS_cont, ↓xS_nx, ↓xS_seq, ↓xS_fz, ↓fzK_l, ↓fzK_d, ↓fzK_n, ↓fzK_D, ↓kS_nx, ↓kS_rt, ↓kS_bk, ↓kS_ct, ↓out1_rt, ↓out2_rt, ↓xE_allIn, ↓xE_inC, ↓xE_isB, ↓strD_s, ↓xE_callT, ↓xE_callLam, ↓xE_xin, ↓xE_xget, ↓xE_xdc, ↓xE_xd1, ↓xE_srK, ↓xE_hasX, ↓xE_srts, ↓xS_newX, ↓xS_xput, ↓eT_l, noF_dT, ↓lamV_d
, ↓xE_anyNe, ↓xI_zp, ↓zpD_t, ↓xS_asgXn, ↓xS_asgXt, ↓yV_d, ↓u_e_law_16_3, ↓l_entryK]
  rw [rgD_len] at T
  rw [T]
  unfold draw29
  rw [List.map_map]
  rfl
section
variable {N : List Int} {e0 e2 e6 e7 e8 e9 e10 e11 e12 e13 e14 e15 : Ent}
/-- one more stand -/
theorem law29_draw (G : Good N) {k m : Int} {h : Nat} {x : D} {xs : List (List Entry)} (h0 : 0 ≤ k) (h1 : k + 100 ≤ KMax) (hh : 1 ≤ h ∧ h ≤ 4) (hm : 0 < m) (hx : ∀ s ∈ xs, s.length = h) (hz : xs.length ≤ 100) :
    ∃ k' s f9 f10 f11, k ≤ k' ∧ k' ≤ k + 30 ∧ s.length = h ∧ trn [] (.nm 6) b_law_16_5 x [e0, .own (.lst (stAt N k)), e2, .dat (.int (h : Nat)), .dat (.int m), .own (.lst (xs.map standD)), e6, e7, e8, e9, e10, e11, e12, e13, e14, e15, .no] = some (.nx [e0, .own (.lst (stAt N k')), e2, .dat (.int (h : Nat)), .dat (.int m), .own (.lst ((xs ++ [s]).map standD)), .dat x, e7, e8, f9, f10, f11, e12, e13, e14, e15, .no]) := by
  have hK : KMax = 1000000000 := rfl
  have D1 := draw_lc (e0 := e0) (e2 := e2) (e3 := .dat (.int (h : Nat))) (e5 := .own (.lst (xs.map standD))) (e6 := .dat x) (e7 := e7) (e8 := e8) (e9 := e9) (e10 := e10) (e11 := e11) (e12 := e12) (e13 := e13) (e14 := e14) (e15 := e15) (k := k) (h := h) G h0 (by omega) hm
  have dl : (draw29 N k m h).length = h := by unfold draw29; rw [List.length_map, List.length_range]
  generalize draw29 N k m h = s at D1 dl
  obtain ⟨k1, hk1⟩ : ∃ k1, k + 4 * ((h : Nat) : Int) = k1 := ⟨_, rfl⟩
  rw [hk1] at D1
  have th : ((h : Nat) : Int).toNat = h := Int.toNat_natCast h
  have zr : (rgD 0 ((h : Nat) : Int).toNat).length < sizeLine := by rw [th, rgD_len, sizeLine_eq]; omega
  have zs : (s.map enE).length ≤ sizeLine := by rw [List.length_map, sizeLine_eq]; omega
  have D1 : lcGo (ltn [] 16 .yes e_law_16_3) (rgD 0 ((h : Nat) : Int).toNat) [e0, .own (.lst (stAt N k)), e2, .dat (.int (h : Nat)), .dat (.int m), .own (.lst (xs.map standD)), .dat x, e7, e8, e9, e10, e11, e12, e13, e14, e15, .no] = some (s.map enE, [e0, .own (.lst (stAt N k1)), e2, .dat (.int (h : Nat)), .dat (.int m), .own (.lst (xs.map standD)), .dat x, e7, e8, e9, e10, e11, e12, e13, e14, e15, .no]) := by rw [th]; exact D1
  have zx : (xs.map standD).length < sizeLine := by rw [List.length_map, sizeLine_eq]; omega
  have ts : (PyData.tuple (s.map enE)) = standD s := rfl
  have ap : ∀ s', xs.map standD ++ [standD s'] = (xs ++ [s']).map standD := fun s' => by rw [List.map_append]; rfl
  by_cases q : xs.length = 0
  · have q' : decide ((xs.length : Int) > 0) = false := decide_eq_false (by omega)
    have q2 : decide ((0 : Int) < (xs.length : Int)) = false := decide_eq_false (by omega)
    refine ⟨k1, s, .dat (standD s), e10, e11, by omega, by omega, dl, ?_⟩
    rw [trn_x]
    simp (config := { implicitDefEqProofs := false }) (disch := walk_at "side") only [↓reduceIte, decide_eq_true_eq, decide_true, decide_false, Bool.not_true, Bool.not_false, Bool.false_eq_true, Int.reduceEq, Int.reduceLT, Int.reduceLE, Int.reduceNeg, Int.reduceToNat, ↓okI, ↓okI2, ↓aV_d, ↓aV_o, ↓aV_n, ↓aV_w, ↓dV_d, ↓dV_wD, ↓aV_wD, ↓dO_d, ↓kV_w, ↓xE_dinD, ↓xE_dninD, ↓xE_dgetD, ↓xE_fnv, ↓xE_callF, ↓xE_callE, ↓xE_isaT, ↓xE_dspb, ↓xI_ukd, ↓xS_retD, ↓xS_fzD, ↓fzKD_D, ↓fzKD_d, ↓dV_n, ↓dV_w, ↓gE_0, ↓gE_s, ↓eL_l, ↓eD_l, ↓eV_d, ↓eV_l, ↓nA_d, ↓nA_o, ↓iD_i, ↓bD_b, ↓kD_i, ↓kD_s, ↓zD_d, ↓vZ_d, ↓vZ_n, ↓sR_0, ↓sR_s, ↓sK_n, ↓sK_0, ↓lD_l, ↓sD_l, ↓sD_t, ↓tD_t, ↓dA_nil, ↓dA_d, ↓dN_nil, ↓dN_c, ↓oZ_addI, ↓oZ_addS, ↓oZ_addT, ↓oZ_addL, ↓oZ_sub, ↓oZ_mul, ↓oZ_mulT, ↓oZ_mulL, ↓oZ_fdiv, ↓oZ_mod, ↓oZ_pow, ↓oZ_eqI, ↓oZ_eqS, ↓oZ_neS, ↓oZ_neI, ↓oZ_lt, ↓oZ_le, ↓oZ_gt, ↓oZ_ge, ↓oZ_ixL, ↓oZ_ixT, ↓aI_0, ↓aI_1, ↓aI_2, ↓nI_0, ↓nI_1, ↓lS_0, ↓lS_s, ↓aI_int, ↓aI_str, ↓aI_row, ↓aI_b2, ↓aI_i1, ↓aI_i2, ↓aI_i3, ↓aI_i4, ↓aI_i5, ↓aI_i6, ↓oZ_abyz, ↓oZ_az, ↓cZ_lenLm, ↓cZ_lenTm, ↓cZ_lenP, ↓oZ_ixP, ↓sD_P, ↓cZ_lstP, ↓cZ_abs, ↓cZ_int, ↓cZ_intB, ↓cZ_tup, ↓cZ_lstL, ↓cZ_lstT, ↓cZ_all, ↓cZ_any, ↓cZ_max2, ↓cZ_min2, ↓cZ_sum, ↓cZ_sorted, ↓xE_int, ↓xE_bl, ↓xE_str, ↓xE_non, ↓xE_var, ↓xE_op, ↓xE_neg, ↓xE_nt, ↓xE_an, ↓xE_or, ↓xE_ch, ↓xE_isN, ↓xE_notN, ↓xE_ife, ↓xE_tup, ↓xE_lst, ↓xE_sl, ↓sl1_T, ↓sl1_L, ↓xE_cb, ↓xE_isa, ↓xE_call, ↓xE_callX, ↓xE_lget, ↓xE_srs, xE_revT, ↓xE_revL, ↓xE_sw, ↓s2D_s, ↓xB_sif, ↓xE_dget2, ↓xT_tl, ↓xI_ky, ↓xS_lk0, ↓xR_x, ↓xR_call, ↓xR_lst, ↓xR_e, ↓xB_ret, ↓xB_iff, ↓xS_tryK, ↓xS_never, ↓xS_mv0, ↓xS_aug, ↓eF_l, noF_nil, noF_dat, noF_no, noF_lst, noF_dK, ↓sK_j, ↓xE_callS, ↓xE_lc, ↓xE_lc2, ↓xE_callL, ↓rvA_d, ↓tw2_t, ↓sN_0, ↓sN_s, ↓xE_lrg, ↓xE_trg, ↓xE_pop, ↓xE_idxL, ↓sT_s, ↓xE_idxT, ↓xE_dget, ↓xE_din, ↓xE_dnin, ↓xE_dset, ↓xE_dspV, ↓xE_dspC, ↓xE_dspM, ↓tE_d, ↓xI_rng3, ↓xA_nil, ↓xA_cons, ↓xT_te, ↓xT_tb, ↓xT_nt, ↓xT_an, ↓xT_or, ↓xT_yes, ↓xT_lend, ↓xP_no, ↓xP_at, ↓xI_rng1, ↓xI_rng2, ↓xI_u, ↓xI_en, ↓xI_enl, ↓xG_nm, ↓xG_tup, ↓xGs_nil, ↓xGs_cons, ↓sV_d, ↓sV_n, ↓sV_w, ↓rV_d, ↓rV_n, ↓rV_w, ↓rV_o, ↓xS_set, ↓xS_asg, ↓xS_seti, ↓xS_app, ↓xS_newD, ↓xS_dput, ↓xS_drop, ↓xS_dropX, ↓xS_raise, ↓xS_tryC, ↓xS_ret, ↓xS_retN, ↓xS_iff, ↓xS_for, ↓xS_wh, ↓xS_brk, ↓xS_cont, ↓xS_nx, ↓xS_seq, ↓xS_fz, ↓fzK_l, ↓fzK_d, ↓fzK_n, ↓fzK_D, ↓kS_nx, ↓kS_rt, ↓kS_bk, ↓kS_ct, ↓out1_rt, ↓out2_rt, ↓xE_allIn, ↓xE_inC, ↓xE_isB, ↓strD_s, ↓xE_callT, ↓xE_callLam, ↓xE_xin, ↓xE_xget, ↓xE_xdc, ↓xE_xd1, ↓xE_srK, ↓xE_hasX, ↓xE_srts, ↓xS_newX, ↓xS_xput, ↓eT_l, noF_dT, ↓lamV_d
, ↓xE_anyNe, ↓xI_zp, ↓zpD_t, ↓xS_asgXn, ↓xS_asgXt, ↓yV_d, ↓u_b_law_16_5, ↓lK_s D1, ts, q', q2, Bool.false_eq_true, ap]
  · have q' : decide ((xs.length : Int) > 0) = true := decide_eq_true (by omega)
    have q2 : decide ((0 : Int) < (xs.length : Int)) = true := decide_eq_true (by omega)
    by_cases c : nxt N k1 3 > 0
    · have c' : decide (nxt N k1 3 > 0) = true := decide_eq_true c
      have c2 : decide (0 < nxt N k1 3) = true := decide_eq_true c
      have p1 : (0 : Int) < (xs.length : Int) := by omega
      have p2 : (0 : Int) < (h : Int) := by omega
      have a0 := nxt_lo (N := N) (k := k1 + 1) p1
      have a1 := nxt_hi (N := N) (k := k1 + 1) p1
      have b0 := nxt_lo (N := N) (k := k1 + 1 + 1) p2
      have b1 := nxt_hi (N := N) (k := k1 + 1 + 1) p2
      have AX : ∀ {β : Type} (kd : D → Option β), aI (xs.map standD) (nxt N (k1 + 1) (xs.length : Int)) kd = kd (standD (xs.getD (nxt N (k1 + 1) (xs.length : Int)).toNat [])) := fun kd => aI_map [] a0 a1
      have om : xs.getD (nxt N (k1 + 1) (xs.length : Int)).toNat [] ∈ xs := by
        rw [List.getD_eq_getElem?_getD, List.getElem?_eq_getElem (by omega)]
        exact List.getElem_mem (by omega)
      have ol := hx _ om
      generalize xs.getD (nxt N (k1 + 1) (xs.length : Int)).toNat [] = old at AX ol
      obtain ⟨j, ej⟩ : ∃ j : Nat, nxt N (k1 + 1 + 1) (h : Int) = (j : Int) := ⟨(nxt N (k1 + 1 + 1) (h : Int)).toNat, by omega⟩
      have hj : j < h := by omega
      have j0 : (0 : Int) ≤ (j : Int) := by omega
      have j1 : (j : Int) < (s.length : Int) := by omega
      have tj : ((j : Nat) : Int).toNat = j := Int.toNat_natCast j
      have AS : ∀ {β : Type} (kd : D → Option β), aI (s.map enE) (j : Int) kd = kd (enE (s.getD j none)) := fun kd => by rw [aI_ent j0 j1, tj]
      have cd1 : DL.cutD (old.map enE) none (some (j : Int)) = (old.take j).map enE := cutE old j
      have cd2 : DL.cutD (old.map enE) (some ((j : Int) + 1)) none = (old.drop (j + 1)).map enE := by
        rw [cut_dropO, List.map_drop]
      have jn : ((old.take j).map enE ++ [enE (s.getD j none)]) ++ (old.drop (j + 1)).map enE = (old.take j ++ [s.getD j none] ++ old.drop (j + 1)).map enE := by simp
      have z1 : ((old.take j).map enE).length + [enE (s.getD j none)].length ≤ sizeLine := by
        rw [List.length_map, List.length_take, List.length_singleton, sizeLine_eq]; omega
      have z2 : ((old.take j).map enE ++ [enE (s.getD j none)]).length + ((old.drop (j + 1)).map enE).length ≤ sizeLine := by
        rw [List.length_append, List.length_map, List.length_take, List.length_singleton, List.length_map, List.length_drop, sizeLine_eq]; omega
      refine ⟨k1 + 1 + 1 + 1, old.take j ++ [s.getD j none] ++ old.drop (j + 1), .dat (standD (old.take j ++ [s.getD j none] ++ old.drop (j + 1))), .dat (standD old), .dat (.int (j : Int)), by omega, by omega, by simp; omega, ?_⟩
      rw [trn_x, ← ap]
      unfold standD at *
      simp (config := { implicitDefEqProofs := false }) (disch := walk_at "side") only [↓reduceIte, decide_eq_true_eq, decide_true, decide_false, Bool.not_true, Bool.not_false, Bool.false_eq_true, Int.reduceEq, Int.reduceLT, Int.reduceLE, Int.reduceNeg, Int.reduceToNat, ↓okI, ↓okI2, ↓aV_d, ↓aV_o, ↓aV_n, ↓aV_w, ↓dV_d, ↓dV_wD, ↓aV_wD, ↓dO_d, ↓kV_w, ↓xE_dinD, ↓xE_dninD, ↓xE_dgetD, ↓xE_fnv, ↓xE_callF, ↓xE_callE, ↓xE_isaT, ↓xE_dspb, ↓xI_ukd, ↓xS_retD, ↓xS_fzD, ↓fzKD_D, ↓fzKD_d, ↓dV_n, ↓dV_w, ↓gE_0, ↓gE_s, ↓eL_l, ↓eD_l, ↓eV_d, ↓eV_l, ↓nA_d, ↓nA_o, ↓iD_i, ↓bD_b, ↓kD_i, ↓kD_s, ↓zD_d, ↓vZ_d, ↓vZ_n, ↓sR_0, ↓sR_s, ↓sK_n, ↓sK_0, ↓lD_l, ↓sD_l, ↓sD_t, ↓tD_t, ↓dA_nil, ↓dA_d, ↓dN_nil, ↓dN_c, ↓oZ_addI, ↓oZ_addS, ↓oZ_addT, ↓oZ_addL, ↓oZ_sub, ↓oZ_mul, ↓oZ_mulT, ↓oZ_mulL, ↓oZ_fdiv, ↓oZ_mod, ↓oZ_pow, ↓oZ_eqI, ↓oZ_eqS, ↓oZ_neS, ↓oZ_neI, ↓oZ_lt, ↓oZ_le, ↓oZ_gt, ↓oZ_ge, ↓oZ_ixL, ↓oZ_ixT, ↓aI_0, ↓aI_1, ↓aI_2, ↓nI_0, ↓nI_1, ↓lS_0, ↓lS_s, ↓aI_int, ↓aI_str, ↓aI_row, ↓aI_b2, ↓aI_i1, ↓aI_i2, ↓aI_i3, ↓aI_i4, ↓aI_i5, ↓aI_i6, ↓oZ_abyz, ↓oZ_az, ↓cZ_lenLm, ↓cZ_lenTm, ↓cZ_lenP, ↓oZ_ixP, ↓sD_P, ↓cZ_lstP, ↓cZ_abs, ↓cZ_int, ↓cZ_intB, ↓cZ_tup, ↓cZ_lstL, ↓cZ_lstT, ↓cZ_all, ↓cZ_any, ↓cZ_max2, ↓cZ_min2, ↓cZ_sum, ↓cZ_sorted, ↓xE_int, ↓xE_bl, ↓xE_str, ↓xE_non, ↓xE_var, ↓xE_op, ↓xE_neg, ↓xE_nt, ↓xE_an, ↓xE_or, ↓xE_ch, ↓xE_isN, ↓xE_notN, ↓xE_ife, ↓xE_tup, ↓xE_lst, ↓xE_sl, ↓sl1_T, ↓sl1_L, ↓xE_cb, ↓xE_isa, ↓xE_call, ↓xE_callX, ↓xE_lget, ↓xE_srs, xE_revT, ↓xE_revL, ↓xE_sw, ↓s2D_s, ↓xB_sif, ↓xE_dget2, ↓xT_tl, ↓xI_ky, ↓xS_lk0, ↓xR_x, ↓xR_call, ↓xR_lst, ↓xR_e, ↓xB_ret, ↓xB_iff, ↓xS_tryK, ↓xS_never, ↓xS_mv0, ↓xS_aug, ↓eF_l, noF_nil, noF_dat, noF_no, noF_lst, noF_dK, ↓sK_j, ↓xE_callS, ↓xE_lc, ↓xE_lc2, ↓xE_callL, ↓rvA_d, ↓tw2_t, ↓sN_0, ↓sN_s, ↓xE_lrg, ↓xE_trg, ↓xE_pop, ↓xE_idxL, ↓sT_s, ↓xE_idxT, ↓xE_dget, ↓xE_din, ↓xE_dnin, ↓xE_dset, ↓xE_dspV, ↓xE_dspC, ↓xE_dspM, ↓tE_d, ↓xI_rng3, ↓xA_nil, ↓xA_cons, ↓xT_te, ↓xT_tb, ↓xT_nt, ↓xT_an, ↓xT_or, ↓xT_yes, ↓xT_lend, ↓xP_no, ↓xP_at, ↓xI_rng1, ↓xI_rng2, ↓xI_u, ↓xI_en, ↓xI_enl, ↓xG_nm, ↓xG_tup, ↓xGs_nil, ↓xGs_cons, ↓sV_d, ↓sV_n, ↓sV_w, ↓rV_d, ↓rV_n, ↓rV_w, ↓rV_o, ↓xS_set, ↓xS_asg, ↓xS_seti, ↓xS_app, ↓xS_newD, ↓xS_dput, ↓xS_drop, ↓xS_dropX, ↓xS_raise, ↓xS_tryC, ↓xS_ret, ↓xS_retN, ↓xS_iff, ↓xS_for, ↓xS_wh, ↓xS_brk, ↓xS_cont, ↓xS_nx, ↓xS_seq, ↓xS_fz, ↓fzK_l, ↓fzK_d, ↓fzK_n, ↓fzK_D, ↓kS_nx, ↓kS_rt, ↓kS_bk, ↓kS_ct, ↓out1_rt, ↓out2_rt, ↓xE_allIn, ↓xE_inC, ↓xE_isB, ↓strD_s, ↓xE_callT, ↓xE_callLam, ↓xE_xin, ↓xE_xget, ↓xE_xdc, ↓xE_xd1, ↓xE_srK, ↓xE_hasX, ↓xE_srts, ↓xS_newX, ↓xS_xput, ↓eT_l, noF_dT, ↓lamV_d
, ↓xE_anyNe, ↓xI_zp, ↓zpD_t, ↓xS_asgXn, ↓xS_asgXt, ↓yV_d, ↓u_b_law_16_5, ↓lK_s D1, q', q2, ↓nextK, c', c2, ↓AX, ej, cd1, cd2, ↓AS, jn]
    · have c' : decide (nxt N k1 3 > 0) = false := decide_eq_false c
      have c2 : decide (0 < nxt N k1 3) = false := decide_eq_false c
      refine ⟨k1 + 1, s, .dat (standD s), e10, e11, by omega, by omega, dl, ?_⟩
      rw [trn_x]
      simp (config := { implicitDefEqProofs := false }) (disch := walk_at "side") only [↓reduceIte, decide_eq_true_eq, decide_true, decide_false, Bool.not_true, Bool.not_false, Bool.false_eq_true, Int.reduceEq, Int.reduceLT, Int.reduceLE, Int.reduceNeg, Int.reduceToNat, ↓okI, ↓okI2, ↓aV_d, ↓aV_o, ↓aV_n, ↓aV_w, ↓dV_d, ↓dV_wD, ↓aV_wD, ↓dO_d, ↓kV_w, ↓xE_dinD, ↓xE_dninD, ↓xE_dgetD, ↓xE_fnv, ↓xE_callF, ↓xE_callE, ↓xE_isaT, ↓xE_dspb, ↓xI_ukd, ↓xS_retD, ↓xS_fzD, ↓fzKD_D, ↓fzKD_d, ↓dV_n, ↓dV_w, ↓gE_0, ↓gE_s, ↓eL_l, ↓eD_l, ↓eV_d, ↓eV_l, ↓nA_d, ↓nA_o, ↓iD_i, ↓bD_b, ↓kD_i, ↓kD_s, ↓zD_d, ↓vZ_d, ↓vZ_n, ↓sR_0, ↓sR_s, ↓sK_n, ↓sK_0, ↓lD_l, ↓sD_l, ↓sD_t, ↓tD_t, ↓dA_nil, ↓dA_d, ↓dN_nil, ↓dN_c, ↓oZ_addI, ↓oZ_addS, ↓oZ_addT, ↓oZ_addL, ↓oZ_sub, ↓oZ_mul, ↓oZ_mulT, ↓oZ_mulL, ↓oZ_fdiv, ↓oZ_mod, ↓oZ_pow, ↓oZ_eqI, ↓oZ_eqS, ↓oZ_neS, ↓oZ_neI, ↓oZ_lt, ↓oZ_le, ↓oZ_gt, ↓oZ_ge, ↓oZ_ixL, ↓oZ_ixT, ↓aI_0, ↓aI_1, ↓aI_2, ↓nI_0, ↓nI_1, ↓lS_0, ↓lS_s, ↓aI_int, ↓aI_str, ↓aI_row, ↓aI_b2, ↓aI_i1, ↓aI_i2, ↓aI_i3, ↓aI_i4, ↓aI_i5, ↓aI_i6, ↓oZ_abyz, ↓oZ_az, ↓cZ_lenLm, ↓cZ_lenTm, ↓cZ_lenP, ↓oZ_ixP, ↓sD_P, ↓cZ_lstP, ↓cZ_abs, ↓cZ_int, ↓cZ_intB, ↓cZ_tup, ↓cZ_lstL, ↓cZ_lstT, ↓cZ_all, ↓cZ_any, ↓cZ_max2, ↓cZ_min2, ↓cZ_sum, ↓cZ_sorted, ↓xE_int, ↓xE_bl, ↓xE_str, ↓xE_non, ↓xE_var, ↓xE_op, ↓xE_neg, ↓xE_nt, ↓xE_an, ↓xE_or, ↓xE_ch, ↓xE_isN, ↓xE_notN, ↓xE_ife, ↓xE_tup, ↓xE_lst, ↓xE_sl, ↓sl1_T, ↓sl1_L, ↓xE_cb, ↓xE_isa, ↓xE_call, ↓xE_callX, ↓xE_lget, ↓xE_srs, xE_revT, ↓xE_revL, ↓xE_sw, ↓s2D_s, ↓xB_sif, ↓xE_dget2, ↓xT_tl, ↓xI_ky, ↓xS_lk0, ↓xR_x, ↓xR_call, ↓xR_lst, ↓xR_e, ↓xB_ret, ↓xB_iff, ↓xS_tryK, ↓xS_never, ↓xS_mv0, ↓xS_aug, ↓eF_l, noF_nil, noF_dat, noF_no, noF_lst, noF_dK, ↓sK_j, ↓xE_callS, ↓xE_lc, ↓xE_lc2, ↓xE_callL, ↓rvA_d, ↓tw2_t, ↓sN_0, ↓sN_s, ↓xE_lrg, ↓xE_trg, ↓xE_pop, ↓xE_idxL, ↓sT_s, ↓xE_idxT, ↓xE_dget, ↓xE_din, ↓xE_dnin, ↓xE_dset, ↓xE_dspV, ↓xE_dspC, ↓xE_dspM, ↓tE_d, ↓xI_rng3, ↓xA_nil, ↓xA_cons, ↓xT_te, ↓xT_tb, ↓xT_nt, ↓xT_an, ↓xT_or, ↓xT_yes, ↓xT_lend, ↓xP_no, ↓xP_at, ↓xI_rng1, ↓xI_rng2, ↓xI_u, ↓xI_en, ↓xI_enl, ↓xG_nm, ↓xG_tup, ↓xGs_nil, ↓xGs_cons, ↓sV_d, ↓sV_n, ↓sV_w, ↓rV_d, ↓rV_n, ↓rV_w, ↓rV_o, ↓xS_set, ↓xS_asg, ↓xS_seti, ↓xS_app, ↓xS_newD, ↓xS_dput, ↓xS_drop, ↓xS_dropX, ↓xS_raise, ↓xS_tryC, ↓xS_ret, ↓xS_retN, ↓xS_iff, ↓xS_for, ↓xS_wh, ↓xS_brk, ↓xS_cont, ↓xS_nx, ↓xS_seq, ↓xS_fz, ↓fzK_l, ↓fzK_d, ↓fzK_n, ↓fzK_D, ↓kS_nx, ↓kS_rt, ↓kS_bk, ↓kS_ct, ↓out1_rt, ↓out2_rt, ↓xE_allIn, ↓xE_inC, ↓xE_isB, ↓strD_s, ↓xE_callT, ↓xE_callLam, ↓xE_xin, ↓xE_xget, ↓xE_xdc, ↓xE_xd1, ↓xE_srK, ↓xE_hasX, ↓xE_srts, ↓xS_newX, ↓xS_xput, ↓eT_l, noF_dT, ↓lamV_d
, ↓xE_anyNe, ↓xI_zp, ↓zpD_t, ↓xS_asgXn, ↓xS_asgXt, ↓yV_d, ↓u_b_law_16_5, ↓lK_s D1, ts, q', q2, ↓nextK, c', c2, Bool.false_eq_true, ap]
end
end CS
namespace CS
open PySem PySem.Spec PyProof.Rows L2 DL EV
local macro_rules | `(tactic| walk_at "side") => `(tactic| first | omega | (simp only [List.length_cons, List.length_nil, List.length_map, List.length_append, List.length_range, PySem.sizeLine_eq]; omega) | assumption | (simp; done))
section
variable {N : List Int} {e0 e2 e3 e4 e6 e7 e8 e9 e10 e11 e12 e13 e14 e15 : Ent}
theorem law29_draws (G : Good N) {k m : Int} {h q : Nat} (h0 : 0 ≤ k) (h1 : k + 2000 ≤ KMax) (hh : 1 ≤ h ∧ h ≤ 4) (hm : 0 < m) (hq : q ≤ 24) :
    ∃ (k' : Int) (xs : List (List Entry)) (f6 f9 f10 f11 : Ent), k ≤ k' ∧ k' ≤ k + 30 * (q : Nat) ∧ xs.length = q ∧ (∀ s ∈ xs, s.length = h) ∧ forGo (trn [] (.nm 6) b_law_16_5) (rgD 0 q) [e0, .own (.lst (stAt N k)), e2, .dat (.int (h : Nat)), .dat (.int m), .own (.lst []), e6, e7, e8, e9, e10, e11, e12, e13, e14, e15, .no] = some (.nx [e0, .own (.lst (stAt N k')), e2, .dat (.int (h : Nat)), .dat (.int m), .own (.lst (xs.map standD)), f6, e7, e8, f9, f10, f11, e12, e13, e14, e15, .no]) := by
  have hK : KMax = 1000000000 := rfl
  obtain ⟨ρ', L, k', xs, f6, f9, f10, f11, rfl, g1, g2, g3, g4⟩ := for_ex0 (f := trn [] (.nm 6) b_law_16_5) (fun i ρ => ∃ (k' : Int) (xs : List (List Entry)) (f6 f9 f10 f11 : Ent), ρ = [e0, .own (.lst (stAt N k')), e2, .dat (.int (h : Nat)), .dat (.int m), .own (.lst (xs.map standD)), f6, e7, e8, f9, f10, f11, e12, e13, e14, e15, .no] ∧ k ≤ k' ∧ k' ≤ k + 30 * (i : Nat) ∧ xs.length = i ∧ ∀ s ∈ xs, s.length = h) (l := rgD 0 q) (ρ := [e0, .own (.lst (stAt N k)), e2, .dat (.int (h : Nat)), .dat (.int m), .own (.lst []), e6, e7, e8, e9, e10, e11, e12, e13, e14, e15, .no])
    ⟨k, [], _, _, _, _, rfl, by omega, by omega, rfl, fun s m => nomatch m⟩ (fun i ρ hi ⟨k', xs, f6, f9, f10, f11, e, g1, g2, g3, g4⟩ => by
      subst e
      rw [rgD_len] at hi
      obtain ⟨k2, s, t9, t10, t11, q1, q2, q3, T⟩ := law29_draw (e0 := e0) (e2 := e2) (e6 := f6) (e7 := e7) (e8 := e8) (e9 := f9) (e10 := f10) (e11 := f11) (e12 := e12) (e13 := e13) (e14 := e14) (e15 := e15) G (k := k') (m := m) (h := h) (x := nthD (rgD 0 q) i) (xs := xs) (by omega) (by omega) hh hm g4 (by omega)
      refine ⟨_, T, k2, xs ++ [s], _, t9, t10, t11, rfl, by omega, by omega, by rw [List.length_append, g3]; rfl, fun y my => ?_⟩
      rcases List.mem_append.mp my with my | my
      · exact g4 y my
      · rw [List.mem_singleton.mp my]; exact q3)
  rw [rgD_len] at g2 g3
  exact ⟨k', xs, f6, f9, f10, f11, g1, g2, g3, g4, L⟩
/-- a pair, asked -/
theorem law29_pair (G : Good N) {k : Int} {h : Nat} {x : D} {xs : List (List Entry)} (h0 : 0 ≤ k) (h1 : k + 100 ≤ KMax) (hh : 1 ≤ h ∧ h ≤ 4) (hx : ∀ s ∈ xs, s.length = h) :
    ∃ k' f12 f13 f14 f15, k ≤ k' ∧ k' ≤ k + 2 ∧ trn [] (.nm 6) b_law_16_1 x [e0, .own (.lst (stAt N k)), e2, e3, e4, .dat (.list (xs.map standD)), e6, e7, e8, e9, e10, e11, e12, e13, e14, e15, .no] = some (.nx [e0, .own (.lst (stAt N k')), e2, e3, e4, .dat (.list (xs.map standD)), .dat x, e7, e8, e9, e10, e11, f12, f13, f14, f15, .no]) := by
  have hK : KMax = 1000000000 := rfl
  by_cases q : xs.length = 0
  · have q' : decide ((xs.length : Int) > 0) = false := decide_eq_false (by omega)
    have q2 : decide ((0 : Int) < (xs.length : Int)) = false := decide_eq_false (by omega)
    refine ⟨k, e12, e13, e14, e15, by omega, by omega, ?_⟩
    rw [trn_x]
    simp (config := { implicitDefEqProofs := false }) (disch := walk_at "side") only [↓reduceIte, decide_eq_true_eq, decide_true, decide_false, Bool.not_true, Bool.not_false, Bool.false_eq_true, Int.reduceEq, Int.reduceLT, Int.reduceLE, Int.reduceNeg, Int.reduceToNat, ↓okI, ↓okI2, ↓aV_d, ↓aV_o, ↓aV_n, ↓aV_w, ↓dV_d, ↓dV_wD, ↓aV_wD, ↓dO_d, ↓kV_w, ↓xE_dinD, ↓xE_dninD, ↓xE_dgetD, ↓xE_fnv, ↓xE_callF, ↓xE_callE, ↓xE_isaT, ↓xE_dspb, ↓xI_ukd, ↓xS_retD, ↓xS_fzD, ↓fzKD_D, ↓fzKD_d, ↓dV_n, ↓dV_w, ↓gE_0, ↓gE_s, ↓eL_l, ↓eD_l, ↓eV_d, ↓eV_l, ↓nA_d, ↓nA_o, ↓iD_i, ↓bD_b, ↓kD_i, ↓kD_s, ↓zD_d, ↓vZ_d, ↓vZ_n, ↓sR_0, ↓sR_s, ↓sK_n, ↓sK_0, ↓lD_l, ↓sD_l, ↓sD_t, ↓tD_t, ↓dA_nil, ↓dA_d, ↓dN_nil, ↓dN_c, ↓oZ_addI, ↓oZ_addS, ↓oZ_addT, ↓oZ_addL, ↓oZ_sub, ↓oZ_mul, ↓oZ_mulT, ↓oZ_mulL, ↓oZ_fdiv, ↓oZ_mod, ↓oZ_pow, ↓oZ_eqI, ↓oZ_eqS, ↓oZ_neS, ↓oZ_neI, ↓oZ_lt, ↓oZ_le, ↓oZ_gt, ↓oZ_ge, ↓oZ_ixL, ↓oZ_ixT, ↓aI_0, ↓aI_1, ↓aI_2, ↓nI_0, ↓nI_1, ↓lS_0, ↓lS_s, ↓aI_int, ↓aI_str, ↓aI_row, ↓aI_b2, ↓aI_i1, ↓aI_i2, ↓aI_i3, ↓aI_i4, ↓aI_i5, ↓aI_i6, ↓oZ_abyz, ↓oZ_az, ↓cZ_lenLm, ↓cZ_lenTm, ↓cZ_lenP, ↓oZ_ixP, ↓sD_P, ↓cZ_lstP, ↓cZ_abs, ↓cZ_int, ↓cZ_intB, ↓cZ_tup, ↓cZ_lstL, ↓cZ_lstT, ↓cZ_all, ↓cZ_any, ↓cZ_max2, ↓cZ_min2, ↓cZ_sum, ↓cZ_sorted, ↓xE_int, ↓xE_bl, ↓xE_str, ↓xE_non, ↓xE_var, ↓xE_op, ↓xE_neg, ↓xE_nt, ↓xE_an, ↓xE_or, ↓xE_ch, ↓xE_isN, ↓xE_notN, ↓xE_ife, ↓xE_tup, ↓xE_lst, ↓xE_sl, ↓sl1_T, ↓sl1_L, ↓xE_cb, ↓xE_isa, ↓xE_call, ↓xE_callX, ↓xE_lget, ↓xE_srs, xE_revT, ↓xE_revL, ↓xE_sw, ↓s2D_s, ↓xB_sif, ↓xE_dget2, ↓xT_tl, ↓xI_ky, ↓xS_lk0, ↓xR_x, ↓xR_call, ↓xR_lst, ↓xR_e, ↓xB_ret, ↓xB_iff, ↓xS_tryK, ↓xS_never, ↓xS_mv0, ↓xS_aug, ↓eF_l, noF_nil, noF_dat, noF_no, noF_lst, noF_dK, ↓sK_j, ↓xE_callS, ↓xE_lc, ↓xE_lc2, ↓xE_callL, ↓rvA_d, ↓tw2_t, ↓sN_0, ↓sN_s, ↓xE_lrg, ↓xE_trg, ↓xE_pop, ↓xE_idxL, ↓sT_s, ↓xE_idxT, ↓xE_dget, ↓xE_din, ↓xE_dnin, ↓xE_dset, ↓xE_dspV, ↓xE_dspC, ↓xE_dspM, ↓tE_d, ↓xI_rng3, ↓xA_nil, ↓xA_cons, ↓xT_te, ↓xT_tb, ↓xT_nt, ↓xT_an, ↓xT_or, ↓xT_yes, ↓xT_lend, ↓xP_no, ↓xP_at, ↓xI_rng1, ↓xI_rng2, ↓xI_u, ↓xI_en, ↓xI_enl, ↓xG_nm, ↓xG_tup, ↓xGs_nil, ↓xGs_cons, ↓sV_d, ↓sV_n, ↓sV_w, ↓rV_d, ↓rV_n, ↓rV_w, ↓rV_o, ↓xS_set, ↓xS_asg, ↓xS_seti, ↓xS_app, ↓xS_newD, ↓xS_dput, ↓xS_drop, ↓xS_dropX, ↓xS_raise, ↓xS_tryC, ↓xS_ret, ↓xS_retN, ↓xS_iff, ↓xS_for, ↓xS_wh, ↓xS_brk, ↓xS_cont, ↓xS_nx, ↓xS_seq, ↓xS_fz, ↓fzK_l, ↓fzK_d, ↓fzK_n, ↓fzK_D, ↓kS_nx, ↓kS_rt, ↓kS_bk, ↓kS_ct, ↓out1_rt, ↓out2_rt, ↓xE_allIn, ↓xE_inC, ↓xE_isB, ↓strD_s, ↓xE_callT, ↓xE_callLam, ↓xE_xin, ↓xE_xget, ↓xE_xdc, ↓xE_xd1, ↓xE_srK, ↓xE_hasX, ↓xE_srts, ↓xS_newX, ↓xS_xput, ↓eT_l, noF_dT, ↓lamV_d
, ↓xE_anyNe, ↓xI_zp, ↓zpD_t, ↓xS_asgXn, ↓xS_asgXt, ↓yV_d, ↓u_b_law_16_1, q', q2, Bool.false_eq_true]
  · have q' : decide ((xs.length : Int) > 0) = true := decide_eq_true (by omega)
    have q2 : decide ((0 : Int) < (xs.length : Int)) = true := decide_eq_true (by omega)
    have p1 : (0 : Int) < (xs.length : Int) := by omega
    have a0 := nxt_lo (N := N) (k := k) p1
    have a1 := nxt_hi (N := N) (k := k) p1
    have b0 := nxt_lo (N := N) (k := k + 1) p1
    have b1 := nxt_hi (N := N) (k := k + 1) p1
    have at_ : ∀ (i : Int), 0 ≤ i → i < (xs.length : Int) → (∀ {β : Type} (kd : D → Option β), aI (xs.map standD) i kd = kd (standD (xs.getD i.toNat []))) ∧ xs.getD i.toNat [] ∈ xs := fun i i0 i1 => ⟨fun kd => aI_map [] i0 i1, by
      rw [List.getD_eq_getElem?_getD, List.getElem?_eq_getElem (by omega)]
      exact List.getElem_mem (by omega)⟩
    obtain ⟨A1, m1⟩ := at_ _ a0 a1
    obtain ⟨A2, m2⟩ := at_ _ b0 b1
    have l1 := hx _ m1
    have l2 := hx _ m2
    generalize xs.getD (nxt N k (xs.length : Int)).toNat [] = s at A1 l1
    generalize xs.getD (nxt N (k + 1) (xs.length : Int)).toNat [] = t at A2 l2
    have K1 : ∀ {β : Type} (kv : Vl → Option β), cK f_l_freer [standD s, standD t] kv = kv (.d (.bool (frB s t))) := fun kv => cK_s (l_freer_eq (by omega) (by omega))
    have K2 : ∀ {β : Type} (kv : Vl → Option β), cK f_freer [standD s, standD t] kv = kv (.d (.bool (frB s t))) := fun kv => cK_s (freer_eq (by omega) (by omega))
    have K3 : ∀ {β : Type} (kv : Vl → Option β), cK f_freer [standD s, standD s] kv = kv (.d (.bool true)) := fun kv => by rw [cK_s (freer_eq rfl (by omega)), frB_self]; rfl
    have ki : kitN (.bool (frB s t)) "bool" = some true := rfl
    have nb : ∀ {β : Type} (kz : Rz → Option β), oZ .ne (.bool (frB s t)) (.bool (frB s t)) kz = kz (.d (.bool false)) := fun kz => by
      rw [oZ_ne (d := .bool (frB s t)) (e := .bool (frB s t)) rfl rfl]
      cases frB s t <;> rfl
    refine ⟨k + 1 + 1, .dat (standD s), .dat (standD t), .dat (.bool (frB s t)), .dat (.bool (frB s t)), by omega, by omega, ?_⟩
    rw [trn_x]
    simp (config := { implicitDefEqProofs := false }) (disch := walk_at "side") only [↓reduceIte, decide_eq_true_eq, decide_true, decide_false, Bool.not_true, Bool.not_false, Bool.false_eq_true, Int.reduceEq, Int.reduceLT, Int.reduceLE, Int.reduceNeg, Int.reduceToNat, ↓okI, ↓okI2, ↓aV_d, ↓aV_o, ↓aV_n, ↓aV_w, ↓dV_d, ↓dV_wD, ↓aV_wD, ↓dO_d, ↓kV_w, ↓xE_dinD, ↓xE_dninD, ↓xE_dgetD, ↓xE_fnv, ↓xE_callF, ↓xE_callE, ↓xE_isaT, ↓xE_dspb, ↓xI_ukd, ↓xS_retD, ↓xS_fzD, ↓fzKD_D, ↓fzKD_d, ↓dV_n, ↓dV_w, ↓gE_0, ↓gE_s, ↓eL_l, ↓eD_l, ↓eV_d, ↓eV_l, ↓nA_d, ↓nA_o, ↓iD_i, ↓bD_b, ↓kD_i, ↓kD_s, ↓zD_d, ↓vZ_d, ↓vZ_n, ↓sR_0, ↓sR_s, ↓sK_n, ↓sK_0, ↓lD_l, ↓sD_l, ↓sD_t, ↓tD_t, ↓dA_nil, ↓dA_d, ↓dN_nil, ↓dN_c, ↓oZ_addI, ↓oZ_addS, ↓oZ_addT, ↓oZ_addL, ↓oZ_sub, ↓oZ_mul, ↓oZ_mulT, ↓oZ_mulL, ↓oZ_fdiv, ↓oZ_mod, ↓oZ_pow, ↓oZ_eqI, ↓oZ_eqS, ↓oZ_neS, ↓oZ_neI, ↓oZ_lt, ↓oZ_le, ↓oZ_gt, ↓oZ_ge, ↓oZ_ixL, ↓oZ_ixT, ↓aI_0, ↓aI_1, ↓aI_2, ↓nI_0, ↓nI_1, ↓lS_0, ↓lS_s, ↓aI_int, ↓aI_str, ↓aI_row, ↓aI_b2, ↓aI_i1, ↓aI_i2, ↓aI_i3, ↓aI_i4, ↓aI_i5, ↓aI_i6, ↓oZ_abyz, ↓oZ_az, ↓cZ_lenLm, ↓cZ_lenTm, ↓cZ_lenP, ↓oZ_ixP, ↓sD_P, ↓cZ_lstP, ↓cZ_abs, ↓cZ_int, ↓cZ_intB, ↓cZ_tup, ↓cZ_lstL, ↓cZ_lstT, ↓cZ_all, ↓cZ_any, ↓cZ_max2, ↓cZ_min2, ↓cZ_sum, ↓cZ_sorted, ↓xE_int, ↓xE_bl, ↓xE_str, ↓xE_non, ↓xE_var, ↓xE_op, ↓xE_neg, ↓xE_nt, ↓xE_an, ↓xE_or, ↓xE_ch, ↓xE_isN, ↓xE_notN, ↓xE_ife, ↓xE_tup, ↓xE_lst, ↓xE_sl, ↓sl1_T, ↓sl1_L, ↓xE_cb, ↓xE_isa, ↓xE_call, ↓xE_callX, ↓xE_lget, ↓xE_srs, xE_revT, ↓xE_revL, ↓xE_sw, ↓s2D_s, ↓xB_sif, ↓xE_dget2, ↓xT_tl, ↓xI_ky, ↓xS_lk0, ↓xR_x, ↓xR_call, ↓xR_lst, ↓xR_e, ↓xB_ret, ↓xB_iff, ↓xS_tryK, ↓xS_never, ↓xS_mv0, ↓xS_aug, ↓eF_l, noF_nil, noF_dat, noF_no, noF_lst, noF_dK, ↓sK_j, ↓xE_callS, ↓xE_lc, ↓xE_lc2, ↓xE_callL, ↓rvA_d, ↓tw2_t, ↓sN_0, ↓sN_s, ↓xE_lrg, ↓xE_trg, ↓xE_pop, ↓xE_idxL, ↓sT_s, ↓xE_idxT, ↓xE_dget, ↓xE_din, ↓xE_dnin, ↓xE_dset, ↓xE_dspV, ↓xE_dspC, ↓xE_dspM, ↓tE_d, ↓xI_rng3, ↓xA_nil, ↓xA_cons, ↓xT_te, ↓xT_tb, ↓xT_nt, ↓xT_an, ↓xT_or, ↓xT_yes, ↓xT_lend, ↓xP_no, ↓xP_at, ↓xI_rng1, ↓xI_rng2, ↓xI_u, ↓xI_en, ↓xI_enl, ↓xG_nm, ↓xG_tup, ↓xGs_nil, ↓xGs_cons, ↓sV_d, ↓sV_n, ↓sV_w, ↓rV_d, ↓rV_n, ↓rV_w, ↓rV_o, ↓xS_set, ↓xS_asg, ↓xS_seti, ↓xS_app, ↓xS_newD, ↓xS_dput, ↓xS_drop, ↓xS_dropX, ↓xS_raise, ↓xS_tryC, ↓xS_ret, ↓xS_retN, ↓xS_iff, ↓xS_for, ↓xS_wh, ↓xS_brk, ↓xS_cont, ↓xS_nx, ↓xS_seq, ↓xS_fz, ↓fzK_l, ↓fzK_d, ↓fzK_n, ↓fzK_D, ↓kS_nx, ↓kS_rt, ↓kS_bk, ↓kS_ct, ↓out1_rt, ↓out2_rt, ↓xE_allIn, ↓xE_inC, ↓xE_isB, ↓strD_s, ↓xE_callT, ↓xE_callLam, ↓xE_xin, ↓xE_xget, ↓xE_xdc, ↓xE_xd1, ↓xE_srK, ↓xE_hasX, ↓xE_srts, ↓xS_newX, ↓xS_xput, ↓eT_l, noF_dT, ↓lamV_d
, ↓xE_anyNe, ↓xI_zp, ↓zpD_t, ↓xS_asgXn, ↓xS_asgXt, ↓yV_d, ↓u_b_law_16_1, q', q2, ↓nextK, ↓A1, ↓A2, ↓K1, ↓K2, ↓K3, ki, ↓nb, Option.bind_some, Bool.not_true, Bool.false_eq_true]
/-- one turn of the law -/
theorem law29_turn (G : Good N) {k : Int} {x : D} {e5 : Ent} (h0 : 0 ≤ k) (h1 : k + 3000 ≤ KMax) :
    ∃ k' f3 f4 f5 f6 f7 f8 f9 f10 f11 f12 f13 f14 f15, k ≤ k' ∧ k' ≤ k + 1000 ∧ trn [] (.nm 2) b_law_16_7 x [e0, .own (.lst (stAt N k)), e2, e3, e4, e5, e6, e7, e8, e9, e10, e11, e12, e13, e14, e15, .no] = some (.nx [e0, .own (.lst (stAt N k')), .dat x, f3, f4, f5, f6, f7, f8, f9, f10, f11, f12, f13, f14, f15, .no]) := by
  have hK : KMax = 1000000000 := rfl
  have a0 := nxt_lo (N := N) (k := k) (many := 4) (by omega)
  have a1 := nxt_hi (N := N) (k := k) (many := 4) (by omega)
  obtain ⟨h, eh⟩ : ∃ h : Nat, 1 + nxt N k 4 = (h : Int) := ⟨(1 + nxt N k 4).toNat, by omega⟩
  have hh : 1 ≤ h ∧ h ≤ 4 := by omega
  have b0 := nxt_lo (N := N) (k := k + 1) (many := 3) (by omega)
  have b1 := nxt_hi (N := N) (k := k + 1) (many := 3) (by omega)
  obtain ⟨m, hm, AM⟩ : ∃ m : Int, 0 < m ∧ ∀ {β : Type} (kd : D → Option β), aI [.int 2, .int 3, .int 41] (nxt N (k + 1) 3) kd = kd (.int m) := by
    generalize nxt N (k + 1) 3 = c at b0 b1
    have : c = 0 ∨ c = 1 ∨ c = 2 := by omega
    rcases this with rfl | rfl | rfl
    · exact ⟨2, by decide, fun kd => rfl⟩
    · exact ⟨3, by decide, fun kd => rfl⟩
    · exact ⟨41, by decide, fun kd => rfl⟩
  have c0 := nxt_lo (N := N) (k := k + 1 + 1) (many := 25) (by omega)
  have c1 := nxt_hi (N := N) (k := k + 1 + 1) (many := 25) (by omega)
  obtain ⟨q, eq⟩ : ∃ q : Nat, nxt N (k + 1 + 1) 25 = (q : Int) := ⟨(nxt N (k + 1 + 1) 25).toNat, by omega⟩
  have tq : ((q : Nat) : Int).toNat = q := Int.toNat_natCast q
  obtain ⟨k1, xs, f6, f9, f10, f11, g1, g2, g3, g4, L1⟩ := law29_draws (e0 := e0) (e2 := .dat x) (e6 := e6) (e7 := e7) (e8 := e8) (e9 := e9) (e10 := e10) (e11 := e11) (e12 := e12) (e13 := e13) (e14 := e14) (e15 := e15) G (k := k + 1 + 1 + 1) (m := m) (h := h) (q := q) (by omega) (by omega) hh hm (by omega)
  rw [show rgD 0 q = rgD 0 (nxt N (k + 1 + 1) 25).toNat by rw [eq, tq]] at L1
  have KF : ∀ {β : Type} (kv : Vl → Option β), cK f_freest [.list (xs.map standD)] kv = kv (.w (.lst (((slS xs).filter (minP xs)).map standD))) := fun kv => cK_s (freest_eq2 g4 hh (by omega))
  have KL : ∀ {β : Type} (kv : Vl → Option β), cK f_l_freest [.list (xs.map standD)] kv = kv (.w (.lst (((slS xs).filter (minP xs)).map standD))) := fun kv => cK_s (l_freest_eq g4 hh (by omega))
  have KC : ∀ {β : Type} (kz : Rz → Option β), cZ .list [.list (xs.map standD)] kz = kz (.n (xs.map standD)) := fun kz => cZ_lstL
  generalize ((slS xs).filter (minP xs)) = bs at KF KL
  have ki : kitN (.list (bs.map standD)) "list" = some true := rfl
  obtain ⟨ρ2, L2, k2, t6, t12, t13, t14, t15, rfl, p1, p2⟩ := for_ex0 (f := trn [] (.nm 6) b_law_16_1) (fun i ρ => ∃ (k' : Int) (f6 f12 f13 f14 f15 : Ent), ρ = [e0, .own (.lst (stAt N k')), .dat x, .dat (.int (h : Nat)), .dat (.int m), .dat (.list (xs.map standD)), f6, .dat (.list (xs.map standD)), .own (.lst (bs.map standD)), f9, f10, f11, f12, f13, f14, f15, .no] ∧ k1 ≤ k' ∧ k' ≤ k1 + 2 * (i : Nat)) (l := rgD 0 6) (ρ := [e0, .own (.lst (stAt N k1)), .dat x, .dat (.int (h : Nat)), .dat (.int m), .dat (.list (xs.map standD)), f6, .dat (.list (xs.map standD)), .own (.lst (bs.map standD)), f9, f10, f11, e12, e13, e14, e15, .no])
    ⟨k1, _, _, _, _, _, rfl, by omega, by omega⟩ (fun i ρ hi ⟨k', f6, f12, f13, f14, f15, e, q1, q2⟩ => by
      subst e
      rw [rgD_len] at hi
      obtain ⟨k3, u12, u13, u14, u15, r1, r2, T⟩ := law29_pair (e0 := e0) (e2 := .dat x) (e3 := .dat (.int (h : Nat))) (e4 := .dat (.int m)) (e6 := f6) (e7 := .dat (.list (xs.map standD))) (e8 := .own (.lst (bs.map standD))) (e9 := f9) (e10 := f10) (e11 := f11) (e12 := f12) (e13 := f13) (e14 := f14) (e15 := f15) G (k := k') (h := h) (x := nthD (rgD 0 6) i) (xs := xs) (by omega) (by omega) hh g4
      exact ⟨_, T, k3, _, u12, u13, u14, u15, rfl, by omega, by omega⟩)
  rw [rgD_len] at p2
  refine ⟨k2, .dat (.int (h : Nat)), .dat (.int m), .dat (.list (xs.map standD)), t6, .dat (.list (xs.map standD)), .own (.lst (bs.map standD)), f9, f10, f11, t12, t13, t14, t15, by omega, by omega, ?_⟩
  rw [trn_x]
  simp (config := { implicitDefEqProofs := false }) (disch := walk_at "side") only [↓reduceIte, decide_eq_true_eq, decide_true, decide_false, Bool.not_true, Bool.not_false, Bool.false_eq_true, Int.reduceEq, Int.reduceLT, Int.reduceLE, Int.reduceNeg, Int.reduceToNat, ↓okI, ↓okI2, ↓aV_d, ↓aV_o, ↓aV_n, ↓aV_w, ↓dV_d, ↓dV_wD, ↓aV_wD, ↓dO_d, ↓kV_w, ↓xE_dinD, ↓xE_dninD, ↓xE_dgetD, ↓xE_fnv, ↓xE_callF, ↓xE_callE, ↓xE_isaT, ↓xE_dspb, ↓xI_ukd, ↓xS_retD, ↓xS_fzD, ↓fzKD_D, ↓fzKD_d, ↓dV_n, ↓dV_w, ↓gE_0, ↓gE_s, ↓eL_l, ↓eD_l, ↓eV_d, ↓eV_l, ↓nA_d, ↓nA_o, ↓iD_i, ↓bD_b, ↓kD_i, ↓kD_s, ↓zD_d, ↓vZ_d, ↓vZ_n, ↓sR_0, ↓sR_s, ↓sK_n, ↓sK_0, ↓lD_l, ↓sD_l, ↓sD_t, ↓tD_t, ↓dA_nil, ↓dA_d, ↓dN_nil, ↓dN_c, ↓oZ_addI, ↓oZ_addS, ↓oZ_addT, ↓oZ_addL, ↓oZ_sub, ↓oZ_mul, ↓oZ_mulT, ↓oZ_mulL, ↓oZ_fdiv, ↓oZ_mod, ↓oZ_pow, ↓oZ_eqI, ↓oZ_eqS, ↓oZ_neS, ↓oZ_neI, ↓oZ_lt, ↓oZ_le, ↓oZ_gt, ↓oZ_ge, ↓oZ_ixL, ↓oZ_ixT, ↓aI_0, ↓aI_1, ↓aI_2, ↓nI_0, ↓nI_1, ↓lS_0, ↓lS_s, ↓aI_int, ↓aI_str, ↓aI_row, ↓aI_b2, ↓aI_i1, ↓aI_i2, ↓aI_i3, ↓aI_i4, ↓aI_i5, ↓aI_i6, ↓oZ_abyz, ↓oZ_az, ↓cZ_lenLm, ↓cZ_lenTm, ↓cZ_lenP, ↓oZ_ixP, ↓sD_P, ↓cZ_lstP, ↓cZ_abs, ↓cZ_int, ↓cZ_intB, ↓cZ_tup, ↓cZ_lstL, ↓cZ_lstT, ↓cZ_all, ↓cZ_any, ↓cZ_max2, ↓cZ_min2, ↓cZ_sum, ↓cZ_sorted, ↓xE_int, ↓xE_bl, ↓xE_str, ↓xE_non, ↓xE_var, ↓xE_op, ↓xE_neg, ↓xE_nt, ↓xE_an, ↓xE_or, ↓xE_ch, ↓xE_isN, ↓xE_notN, ↓xE_ife, ↓xE_tup, ↓xE_lst, ↓xE_sl, ↓sl1_T, ↓sl1_L, ↓xE_cb, ↓xE_isa, ↓xE_call, ↓xE_callX, ↓xE_lget, ↓xE_srs, xE_revT, ↓xE_revL, ↓xE_sw, ↓s2D_s, ↓xB_sif, ↓xE_dget2, ↓xT_tl, ↓xI_ky, ↓xS_lk0, ↓xR_x, ↓xR_call, ↓xR_lst, ↓xR_e, ↓xB_ret, ↓xB_iff, ↓xS_tryK, ↓xS_never, ↓xS_mv0, ↓xS_aug, ↓eF_l, noF_nil, noF_dat, noF_no, noF_lst, noF_dK, ↓sK_j, ↓xE_callS, ↓xE_lc, ↓xE_lc2, ↓xE_callL, ↓rvA_d, ↓tw2_t, ↓sN_0, ↓sN_s, ↓xE_lrg, ↓xE_trg, ↓xE_pop, ↓xE_idxL, ↓sT_s, ↓xE_idxT, ↓xE_dget, ↓xE_din, ↓xE_dnin, ↓xE_dset, ↓xE_dspV, ↓xE_dspC, ↓xE_dspM, ↓tE_d, ↓xI_rng3, ↓xA_nil, ↓xA_cons, ↓xT_te, ↓xT_tb, ↓xT_nt, ↓xT_an, ↓xT_or, ↓xT_yes, ↓xT_lend, ↓xP_no, ↓xP_at, ↓xI_rng1, ↓xI_rng2, ↓xI_u, ↓xI_en, ↓xI_enl, ↓xG_nm, ↓xG_tup, ↓xGs_nil, ↓xGs_cons, ↓sV_d, ↓sV_n, ↓sV_w, ↓rV_d, ↓rV_n, ↓rV_w, ↓rV_o, ↓xS_set, ↓xS_asg, ↓xS_seti, ↓xS_app, ↓xS_newD, ↓xS_dput, ↓xS_drop, ↓xS_dropX, ↓xS_raise, ↓xS_tryC, ↓xS_ret, ↓xS_retN, ↓xS_iff, ↓xS_for, ↓xS_wh, ↓xS_brk, ↓xS_cont, ↓xS_nx, ↓xS_seq, ↓xS_fz, ↓fzK_l, ↓fzK_d, ↓fzK_n, ↓fzK_D, ↓kS_nx, ↓kS_rt, ↓kS_bk, ↓kS_ct, ↓out1_rt, ↓out2_rt, ↓xE_allIn, ↓xE_inC, ↓xE_isB, ↓strD_s, ↓xE_callT, ↓xE_callLam, ↓xE_xin, ↓xE_xget, ↓xE_xdc, ↓xE_xd1, ↓xE_srK, ↓xE_hasX, ↓xE_srts, ↓xS_newX, ↓xS_xput, ↓eT_l, noF_dT, ↓lamV_d
, ↓xE_anyNe, ↓xI_zp, ↓zpD_t, ↓xS_asgXn, ↓xS_asgXt, ↓yV_d, ↓u_b_law_16_7, ↓nextK, eh, ↓AM, ↓fK_s L1, ↓KC, ↓KF, ↓KL, ↓oZ_neStands, ki, Option.bind_some, Bool.not_true, Bool.false_eq_true, ↓fK_s L2]
end
theorem law16_true {ns : List Int} (h : ns.length ≤ 63) : f_law_16 [.list (ns.map .int)] = some (.dat (.bool true)) := by
  have hK : KMax = 1000000000 := rfl
  have G := good_stream h
  have KS : ∀ {β : Type} (kv : Vl → Option β), cK f_l_stream [.list (ns.map .int)] kv = kv (.w (.lst ((streamOf ns).map .int))) := fun kv => cK_s (stream_eq h)
  obtain ⟨ρ', L, k', t2, t3, t4, t5, t6, t7, t8, t9, t10, t11, t12, t13, t14, t15, rfl, p1, p2⟩ := for_ex0 (f := trn [] (.nm 2) b_law_16_7) (fun i ρ => ∃ (k' : Int) (f2 f3 f4 f5 f6 f7 f8 f9 f10 f11 f12 f13 f14 f15 : Ent), ρ = [.dat (.list (ns.map .int)), .own (.lst (stAt (streamOf ns) k')), f2, f3, f4, f5, f6, f7, f8, f9, f10, f11, f12, f13, f14, f15, .no] ∧ 0 ≤ k' ∧ k' ≤ 1000 * (i : Nat)) (l := rgD 0 4) (ρ := [.dat (.list (ns.map .int)), .own (.lst (stAt (streamOf ns) 0)), .no, .no, .no, .no, .no, .no, .no, .no, .no, .no, .no, .no, .no, .no, .no])
    ⟨0, _, _, _, _, _, _, _, _, _, _, _, _, _, _, rfl, by omega, by omega⟩ (fun i ρ hi ⟨k', f2, f3, f4, f5, f6, f7, f8, f9, f10, f11, f12, f13, f14, f15, e, q1, q2⟩ => by
      subst e
      rw [rgD_len] at hi
      obtain ⟨k3, u3, u4, u5, u6, u7, u8, u9, u10, u11, u12, u13, u14, u15, r1, r2, T⟩ := law29_turn (e0 := .dat (.list (ns.map .int))) (e2 := f2) (e3 := f3) (e4 := f4) (e5 := f5) (e6 := f6) (e7 := f7) (e8 := f8) (e9 := f9) (e10 := f10) (e11 := f11) (e12 := f12) (e13 := f13) (e14 := f14) (e15 := f15) G (k := k') (x := nthD (rgD 0 4) i) (by omega) (by omega)
      exact ⟨_, T, k3, _, u3, u4, u5, u6, u7, u8, u9, u10, u11, u12, u13, u14, u15, rfl, by omega, by omega⟩)
  have e0 : [PyData.list ((streamOf ns).map PyData.int), PyData.int 0] = stAt (streamOf ns) 0 := rfl
  rw [x_law_16]
  simp (config := { implicitDefEqProofs := false }) (disch := walk_at "side") only [↓reduceIte, decide_eq_true_eq, decide_true, decide_false, Bool.not_true, Bool.not_false, Bool.false_eq_true, Int.reduceEq, Int.reduceLT, Int.reduceLE, Int.reduceNeg, Int.reduceToNat, ↓okI, ↓okI2, ↓aV_d, ↓aV_o, ↓aV_n, ↓aV_w, ↓dV_d, ↓dV_wD, ↓aV_wD, ↓dO_d, ↓kV_w, ↓xE_dinD, ↓xE_dninD, ↓xE_dgetD, ↓xE_fnv, ↓xE_callF, ↓xE_callE, ↓xE_isaT, ↓xE_dspb, ↓xI_ukd, ↓xS_retD, ↓xS_fzD, ↓fzKD_D, ↓fzKD_d, ↓dV_n, ↓dV_w, ↓gE_0, ↓gE_s, ↓eL_l, ↓eD_l, ↓eV_d, ↓eV_l, ↓nA_d, ↓nA_o, ↓iD_i, ↓bD_b, ↓kD_i, ↓kD_s, ↓zD_d, ↓vZ_d, ↓vZ_n, ↓sR_0, ↓sR_s, ↓sK_n, ↓sK_0, ↓lD_l, ↓sD_l, ↓sD_t, ↓tD_t, ↓dA_nil, ↓dA_d, ↓dN_nil, ↓dN_c, ↓oZ_addI, ↓oZ_addS, ↓oZ_addT, ↓oZ_addL, ↓oZ_sub, ↓oZ_mul, ↓oZ_mulT, ↓oZ_mulL, ↓oZ_fdiv, ↓oZ_mod, ↓oZ_pow, ↓oZ_eqI, ↓oZ_eqS, ↓oZ_neS, ↓oZ_neI, ↓oZ_lt, ↓oZ_le, ↓oZ_gt, ↓oZ_ge, ↓oZ_ixL, ↓oZ_ixT, ↓aI_0, ↓aI_1, ↓aI_2, ↓nI_0, ↓nI_1, ↓lS_0, ↓lS_s, ↓aI_int, ↓aI_str, ↓aI_row, ↓aI_b2, ↓aI_i1, ↓aI_i2, ↓aI_i3, ↓aI_i4, ↓aI_i5, ↓aI_i6, ↓oZ_abyz, ↓oZ_az, ↓cZ_lenLm, ↓cZ_lenTm, ↓cZ_lenP, ↓oZ_ixP, ↓sD_P, ↓cZ_lstP, ↓cZ_abs, ↓cZ_int, ↓cZ_intB, ↓cZ_tup, ↓cZ_lstL, ↓cZ_lstT, ↓cZ_all, ↓cZ_any, ↓cZ_max2, ↓cZ_min2, ↓cZ_sum, ↓cZ_sorted, ↓xE_int, ↓xE_bl, ↓xE_str, ↓xE_non, ↓xE_var, ↓xE_op, ↓xE_neg, ↓xE_nt, ↓xE_an, ↓xE_or, ↓xE_ch, ↓xE_isN, ↓xE_notN, ↓xE_ife, ↓xE_tup, ↓xE_lst, ↓xE_sl, ↓sl1_T, ↓sl1_L, ↓xE_cb, ↓xE_isa, ↓xE_call, ↓xE_callX, ↓xE_lget, ↓xE_srs, xE_revT, ↓xE_revL, ↓xE_sw, ↓s2D_s, ↓xB_sif, ↓xE_dget2, ↓xT_tl, ↓xI_ky, ↓xS_lk0, ↓xR_x, ↓xR_call, ↓xR_lst, ↓xR_e, ↓xB_ret, ↓xB_iff, ↓xS_tryK, ↓xS_never, ↓xS_mv0, ↓xS_aug, ↓eF_l, noF_nil, noF_dat, noF_no, noF_lst, noF_dK, ↓sK_j, ↓xE_callS, ↓xE_lc, ↓xE_lc2, ↓xE_callL, ↓rvA_d, ↓tw2_t, ↓sN_0, ↓sN_s, ↓xE_lrg, ↓xE_trg, ↓xE_pop, ↓xE_idxL, ↓sT_s, ↓xE_idxT, ↓xE_dget, ↓xE_din, ↓xE_dnin, ↓xE_dset, ↓xE_dspV, ↓xE_dspC, ↓xE_dspM, ↓tE_d, ↓xI_rng3, ↓xA_nil, ↓xA_cons, ↓xT_te, ↓xT_tb, ↓xT_nt, ↓xT_an, ↓xT_or, ↓xT_yes, ↓xT_lend, ↓xP_no, ↓xP_at, ↓xI_rng1, ↓xI_rng2, ↓xI_u, ↓xI_en, ↓xI_enl, ↓xG_nm, ↓xG_tup, ↓xGs_nil, ↓xGs_cons, ↓sV_d, ↓sV_n, ↓sV_w, ↓rV_d, ↓rV_n, ↓rV_w, ↓rV_o, ↓xS_set, ↓xS_asg, ↓xS_seti, ↓xS_app, ↓xS_newD, ↓xS_dput, ↓xS_drop, ↓xS_dropX, ↓xS_raise, ↓xS_tryC, ↓xS_ret, ↓xS_retN, ↓xS_iff, ↓xS_for, ↓xS_wh, ↓xS_brk, ↓xS_cont, ↓xS_nx, ↓xS_seq, ↓xS_fz, ↓fzK_l, ↓fzK_d, ↓fzK_n, ↓fzK_D, ↓kS_nx, ↓kS_rt, ↓kS_bk, ↓kS_ct, ↓out1_rt, ↓out2_rt, ↓xE_allIn, ↓xE_inC, ↓xE_isB, ↓strD_s, ↓xE_callT, ↓xE_callLam, ↓xE_xin, ↓xE_xget, ↓xE_xdc, ↓xE_xd1, ↓xE_srK, ↓xE_hasX, ↓xE_srts, ↓xS_newX, ↓xS_xput, ↓eT_l, noF_dT, ↓lamV_d
, ↓xE_anyNe, ↓xI_zp, ↓zpD_t, ↓xS_asgXn, ↓xS_asgXt, ↓yV_d, ↓u_c_law_16, ↓KS, e0, ↓fK_s L]
end CS
set_option autoImplicit true
namespace EV
open PySem PySem.Spec PyProof.Rows L2 DL
end EV
set_option autoImplicit false
namespace EV
open PySem PySem.Spec PyProof.Rows L2 DL
end EV
namespace EV
open PySem PySem.Spec PyProof.Rows L2 DL
end EV
set_option autoImplicit true
namespace K29
open PySem PySem.Spec PyProof.Rows L2 DL EV CS
theorem asked [TabC] (K : PySem.W.Frag) (H : Hp) (a : Addr) (ns : List Int) (hl : ns.length ≤ 63) (hT : TabsE H ∧ TabI H ∧ ∀ a, lamW a → H a = none) (hS : SqL K H a (ns.map V.int)) : spD (fun ds r => f_law_16 ds = some r) K [V.ref a] H (fun v H1 => v = V.bl true ∧ TabsE H1) (fun _ _ _ => False) :=
  ⟨H, [.list (ns.map .int)], .dat (.bool true), ⟨Same.refl _, hT⟩, .cons (.lst hS (dpInts ns)) .nil, CS.law16_true hl, fun v F1 H1 s1 x => by
    cases x
    exact ⟨rfl, s1.tabs⟩⟩
theorem facts {P q : Program} {w : World} {K : PySem.W.Frag} {h : Heap} {mg : Str → Option Value} {fa : Addr} (X : K.In h) (G : h.Ns mainGlobals mg) (hT : ∀ (y : Str) (c P : Addr) (dr : DefRec), (recsOf q).find? (fun e => e.name == y) = some dr → PySem.W.tabIn K y = some (c, P) → h.get? P = some { cls := .none, data := .fields #[] }) (hfa : mg "law" = some (.ref fa))
    {f7 : Addr} {od7 an7 : Option Addr} {sl7 : Array (Option Value)} {oc7 kV7 dc7 pm7 cd7 ct7 : Value}
    {f2 : Addr} {od2 an2 : Option Addr} {sl2 : Array (Option Value)} {oc2 kV2 dc2 pm2 cd2 ct2 : Value}
    {f5 : Addr} {od5 an5 : Option Addr} {sl5 : Array (Option Value)} {oc5 kV5 dc5 pm5 cd5 ct5 : Value}
    {f4 : Addr} {od4 an4 : Option Addr} {sl4 : Array (Option Value)} {oc4 kV4 dc4 pm4 ct4 : Value}
    {cc4 cp4 : Addr} {oC4 : Option Addr} {vC4 : Array Value} {sC4 : Array (Option Value)}
    {f3 : Addr} {od3 an3 : Option Addr} {sl3 : Array (Option Value)} {oc3 kV3 dc3 pm3 cd3 ct3 : Value}
    {f8 : Addr} {od8 an8 : Option Addr} {sl8 : Array (Option Value)} {oc8 kV8 dc8 pm8 cd8 ct8 : Value}
    {f9 : Addr} {od9 an9 : Option Addr} {sl9 : Array (Option Value)} {oc9 kV9 dc9 pm9 cd9 ct9 : Value}
    {f10 : Addr} {od10 an10 : Option Addr} {sl10 : Array (Option Value)} {oc10 kV10 dc10 pm10 cd10 ct10 : Value}
    {f1 : Addr} {od1 an1 : Option Addr} {sl1 : Array (Option Value)} {oc1 kV1 dc1 pm1 cd1 ct1 : Value}
    {f11 : Addr} {od11 an11 : Option Addr} {sl11 : Array (Option Value)} {oc11 kV11 dc11 pm11 cd11 ct11 : Value}
    {f12 : Addr} {od12 an12 : Option Addr} {sl12 : Array (Option Value)} {oc12 kV12 dc12 pm12 cd12 ct12 : Value}
    (a7 : PySem.W.nsIn K mainGlobals "_law_stream" = some (some (.ref f7))) (l7 : K.lookup f7 = some ⟨oc7, od7, .func (PySem.W.fnOf "_law_stream" "_law_stream" (defArgs (topS 7)) (defBody (topS 7)) (defScope (topS 7)) .none kV7 dc7 pm7 an7 cd7 ct7), sl7⟩) (c7 : PySem.W.codeIn K cd7 "_law_stream" = true) (k7 : PySem.W.keepIn K (.ref f7) = true)
    (a2 : PySem.W.nsIn K mainGlobals "_freer_entries" = some (some (.ref f2))) (l2 : K.lookup f2 = some ⟨oc2, od2, .func (PySem.W.fnOf "_freer_entries" "_freer_entries" (defArgs (topS 2)) (defBody (topS 2)) (defScope (topS 2)) .none kV2 dc2 pm2 an2 cd2 ct2), sl2⟩) (c2 : PySem.W.codeIn K cd2 "_freer_entries" = true) (k2 : PySem.W.keepIn K (.ref f2) = true)
    (a5 : PySem.W.nsIn K mainGlobals "freer_stands" = some (some (.ref f5))) (l5 : K.lookup f5 = some ⟨oc5, od5, .func (PySem.W.fnOf "freer_stands" "freer_stands" (defArgs (topS 5)) (defBody (topS 5)) (defScope (topS 5)) .none kV5 dc5 pm5 an5 cd5 ct5), sl5⟩) (c5 : PySem.W.codeIn K cd5 "freer_stands" = true) (k5 : PySem.W.keepIn K (.ref f5) = true)
    (a4 : PySem.W.nsIn K mainGlobals "_has_freer" = some (some (.ref f4))) (l4 : K.lookup f4 = some ⟨oc4, od4, .func (PySem.W.fnOf "_has_freer" "_has_freer" (defArgs (topS 4)) (defBody (topS 4)) (defScope (topS 4)) .none kV4 dc4 pm4 an4 (.ref cc4) ct4), sl4⟩) (c4 : PySem.W.codeIn K (.ref cc4) "_has_freer" = true) (k4 : PySem.W.keepIn K (.ref f4) = true)
    (lc4 : K.lookup cc4 = some ⟨.type "code", oC4, .fields vC4, sC4⟩) (p4 : (vC4[11]? : Option Value) = some (.ref cp4)) (nt4 : K.lookup cp4 = none) (hd4 : PySem.W.codeHdIn K cc4 cp4 = true) (fr4 : ((recsOf q).find? fun e => e.name == ("_has_freer" : Str)).isSome = true)
    (a3 : PySem.W.nsIn K mainGlobals "freest" = some (some (.ref f3))) (l3 : K.lookup f3 = some ⟨oc3, od3, .func (PySem.W.fnOf "freest" "freest" (defArgs (topS 3)) (defBody (topS 3)) (defScope (topS 3)) .none kV3 dc3 pm3 an3 cd3 ct3), sl3⟩) (c3 : PySem.W.codeIn K cd3 "freest" = true) (k3 : PySem.W.keepIn K (.ref f3) = true)
    (a8 : PySem.W.nsIn K mainGlobals "_law_next" = some (some (.ref f8))) (l8 : K.lookup f8 = some ⟨oc8, od8, .func (PySem.W.fnOf "_law_next" "_law_next" (defArgs (topS 8)) (defBody (topS 8)) (defScope (topS 8)) .none kV8 dc8 pm8 an8 cd8 ct8), sl8⟩) (c8 : PySem.W.codeIn K cd8 "_law_next" = true) (k8 : PySem.W.keepIn K (.ref f8) = true)
    (a9 : PySem.W.nsIn K mainGlobals "_law_freer" = some (some (.ref f9))) (l9 : K.lookup f9 = some ⟨oc9, od9, .func (PySem.W.fnOf "_law_freer" "_law_freer" (defArgs (topS 9)) (defBody (topS 9)) (defScope (topS 9)) .none kV9 dc9 pm9 an9 cd9 ct9), sl9⟩) (c9 : PySem.W.codeIn K cd9 "_law_freer" = true) (k9 : PySem.W.keepIn K (.ref f9) = true)
    (a10 : PySem.W.nsIn K mainGlobals "_law_freest" = some (some (.ref f10))) (l10 : K.lookup f10 = some ⟨oc10, od10, .func (PySem.W.fnOf "_law_freest" "_law_freest" (defArgs (topS 10)) (defBody (topS 10)) (defScope (topS 10)) .none kV10 dc10 pm10 an10 cd10 ct10), sl10⟩) (c10 : PySem.W.codeIn K cd10 "_law_freest" = true) (k10 : PySem.W.keepIn K (.ref f10) = true)
    (a1 : PySem.W.nsIn K mainGlobals "freer" = some (some (.ref f1))) (l1 : K.lookup f1 = some ⟨oc1, od1, .func (PySem.W.fnOf "freer" "freer" (defArgs (topS 1)) (defBody (topS 1)) (defScope (topS 1)) .none kV1 dc1 pm1 an1 cd1 ct1), sl1⟩) (c1 : PySem.W.codeIn K cd1 "freer" = true) (k1 : PySem.W.keepIn K (.ref f1) = true)
    (a11 : PySem.W.nsIn K mainGlobals "_law_entry" = some (some (.ref f11))) (l11 : K.lookup f11 = some ⟨oc11, od11, .func (PySem.W.fnOf "_law_entry" "_law_entry" (defArgs (topS 11)) (defBody (topS 11)) (defScope (topS 11)) .none kV11 dc11 pm11 an11 cd11 ct11), sl11⟩) (c11 : PySem.W.codeIn K cd11 "_law_entry" = true) (k11 : PySem.W.keepIn K (.ref f11) = true)
    (a12 : PySem.W.nsIn K mainGlobals "law" = some (some (.ref f12))) (l12 : K.lookup f12 = some ⟨oc12, od12, .func (PySem.W.fnOf "law" "law" (defArgs (topS 12)) (defBody (topS 12)) (defScope (topS 12)) .none kV12 dc12 pm12 an12 cd12 ct12), sl12⟩) (c12 : PySem.W.codeIn K cd12 "law" = true) (k12 : PySem.W.keepIn K (.ref f12) = true)
    (z_abs : PySem.W.nsIn K mainGlobals "abs" = some none)
    (z_any : PySem.W.nsIn K mainGlobals "any" = some none)
    (z_bool : PySem.W.nsIn K mainGlobals "bool" = some none)
    (z_enumerate : PySem.W.nsIn K mainGlobals "enumerate" = some none)
    (z_int : PySem.W.nsIn K mainGlobals "int" = some none)
    (z_isinstance : PySem.W.nsIn K mainGlobals "isinstance" = some none)
    (z_len : PySem.W.nsIn K mainGlobals "len" = some none)
    (z_list : PySem.W.nsIn K mainGlobals "list" = some none)
    (z_range : PySem.W.nsIn K mainGlobals "range" = some none)
    (z_set : PySem.W.nsIn K mainGlobals "set" = some none)
    (z_sorted : PySem.W.nsIn K mainGlobals "sorted" = some none)
    (z_tuple : PySem.W.nsIn K mainGlobals "tuple" = some none)
    : ∃ (fd : FuncData) (cs : List (Addr × Addr)) (sp : Sp), (∀ p ∈ cs, h.get? p.2 = some { cls := .none, data := .fields #[] }) ∧ (∀ p ∈ cs, K.lookup p.2 = none) ∧ (∀ p ∈ cs, PySem.W.codeHdIn K p.1 p.2 = true) ∧ (∀ (s : Shared) (u : Value), BindsTo s fd ⟨[u], []⟩ [("script", u)]) ∧ (∀ (H : Hp) (a : Addr) (ns : List Int), ns.length ≤ 63 → (∀ p ∈ cs, H p.2 = some (.ext (tabP p.2))) → SqL K H a (ns.map V.int) → sp [.ref a] H (fun v H1 => v = .bl true ∧ ∀ p ∈ cs, H1 p.2 = some (.ext (tabP p.2))) fun _ _ _ => False) ∧ ∀ base : Heap, K.In base → base.Ns mainGlobals mg → (∀ p ∈ cs, GxR.TabB base mg p.1 p.2) → FnG P w K mg base CX0 5 fa fd ["script"] sp := by
  have e := hfa.symm.trans (PySem.W.mg_of X G a12)
  cases e
  have ti4 : PySem.W.tabIn K "_has_freer" = some (cc4, cp4) := by
    unfold PySem.W.tabIn
    rw [a4]
    simp only [l4, PySem.W.fnOf, lc4, p4]
  have ht4 : h.get? cp4 = some { cls := .none, data := .fields #[] } := by
    obtain ⟨dr, e⟩ := Option.isSome_iff_exists.mp fr4
    exact hT _ _ _ _ e ti4
  refine ⟨PySem.W.fnOf "law" "law" (defArgs (topS 12)) (defBody (topS 12)) (defScope (topS 12)) .none kV12 dc12 pm12 an12 cd12 ct12, [(cc4, cp4)], @spD ⟨[(cp4, tabP cp4)], [], w⟩ (fun ds r => f_law_16 ds = some r) K, ?_, ?_, ?_, fun s u => .of_eq rfl, fun H a ns hl hH hS => ?_, fun base _ _ TB => ?_⟩
  · intro p m
    simp only [List.mem_cons, List.not_mem_nil, or_false] at m
    rcases m with rfl
    exact ht4
  · intro p m
    simp only [List.mem_cons, List.not_mem_nil, or_false] at m
    rcases m with rfl
    exact nt4
  · intro p m
    simp only [List.mem_cons, List.not_mem_nil, or_false] at m
    rcases m with rfl
    exact hd4
  · letI : TabC := ⟨[(cp4, tabP cp4)], [], w⟩
    have hE : TabsE H := fun p m => by
      have m : p ∈ ([(cp4, tabP cp4)] : List (Addr × (Heap → Prop))) := m
      simp only [List.mem_cons, List.not_mem_nil, or_false] at m
      rcases m with m
      rw [m]
      exact hH (cc4, cp4) (by simp)
    obtain ⟨F, ds, r, z1, z2, z3, z4⟩ := asked K H a ns hl ⟨hE, fun p m => (by cases m), fun a ⟨p, m, _⟩ => (by cases m)⟩ hS
    refine ⟨F, ds, r, z1, z2, z3, fun v F1 H1 s1 x => ⟨(z4 v F1 H1 s1 x).1, fun p m => ?_⟩⟩
    have t := (z4 v F1 H1 s1 x).2
    simp only [List.mem_cons, List.not_mem_nil, or_false] at m
    rcases m with rfl
    exact t (cp4, tabP cp4) (by show (cp4, tabP cp4) ∈ ([(cp4, tabP cp4)] : List (Addr × (Heap → Prop))); simp)
  · letI : TabC := ⟨[(cp4, tabP cp4)], [], w⟩
    have T : Txt K mg (fun i => match i with | 7 => f7 | 2 => f2 | 5 => f5 | 4 => f4 | 3 => f3 | 8 => f8 | 9 => f9 | 10 => f10 | 1 => f1 | 11 => f11 | _ => fa) (fun i => match i with | 7 => PySem.W.fnOf "_law_stream" "_law_stream" (defArgs (topS 7)) (defBody (topS 7)) (defScope (topS 7)) .none kV7 dc7 pm7 an7 cd7 ct7 | 2 => PySem.W.fnOf "_freer_entries" "_freer_entries" (defArgs (topS 2)) (defBody (topS 2)) (defScope (topS 2)) .none kV2 dc2 pm2 an2 cd2 ct2 | 5 => PySem.W.fnOf "freer_stands" "freer_stands" (defArgs (topS 5)) (defBody (topS 5)) (defScope (topS 5)) .none kV5 dc5 pm5 an5 cd5 ct5 | 4 => PySem.W.fnOf "_has_freer" "_has_freer" (defArgs (topS 4)) (defBody (topS 4)) (defScope (topS 4)) .none kV4 dc4 pm4 an4 (.ref cc4) ct4 | 3 => PySem.W.fnOf "freest" "freest" (defArgs (topS 3)) (defBody (topS 3)) (defScope (topS 3)) .none kV3 dc3 pm3 an3 cd3 ct3 | 8 => PySem.W.fnOf "_law_next" "_law_next" (defArgs (topS 8)) (defBody (topS 8)) (defScope (topS 8)) .none kV8 dc8 pm8 an8 cd8 ct8 | 9 => PySem.W.fnOf "_law_freer" "_law_freer" (defArgs (topS 9)) (defBody (topS 9)) (defScope (topS 9)) .none kV9 dc9 pm9 an9 cd9 ct9 | 10 => PySem.W.fnOf "_law_freest" "_law_freest" (defArgs (topS 10)) (defBody (topS 10)) (defScope (topS 10)) .none kV10 dc10 pm10 an10 cd10 ct10 | 1 => PySem.W.fnOf "freer" "freer" (defArgs (topS 1)) (defBody (topS 1)) (defScope (topS 1)) .none kV1 dc1 pm1 an1 cd1 ct1 | 11 => PySem.W.fnOf "_law_entry" "_law_entry" (defArgs (topS 11)) (defBody (topS 11)) (defScope (topS 11)) .none kV11 dc11 pm11 an11 cd11 ct11 | 12 => PySem.W.fnOf "law" "law" (defArgs (topS 12)) (defBody (topS 12)) (defScope (topS 12)) .none kV12 dc12 pm12 an12 cd12 ct12 | _ => PySem.W.fnOf "law" "law" (defArgs (topS 12)) (defBody (topS 12)) (defScope (topS 12)) .none kV12 dc12 pm12 an12 cd12 ct12) (fun _ => fa) (fun i => match i with | 4 => cc4 | _ => fa) (fun i => match i with | 4 => cp4 | _ => fa) base := {
        F_l_stream := fun_mk (st := topS 7) l7 c7 k7,
        g_l_stream := PySem.W.mg_of X G a7,
        b_l_stream := (fun_mk (st := topS 7) l7 c7 k7).binds (ps := ["script"]) fun _ _ _ _ _ _ us hl => match us, hl with | [_], _ => rfl,
        F_freer_entries := fun_mk (st := topS 2) l2 c2 k2,
        g_freer_entries := PySem.W.mg_of X G a2,
        b_freer_entries := (fun_mk (st := topS 2) l2 c2 k2).binds (ps := ["entry"]) fun _ _ _ _ _ _ us hl => match us, hl with | [_], _ => rfl,
        F_freer_stands := fun_mk (st := topS 5) l5 c5 k5,
        g_freer_stands := PySem.W.mg_of X G a5,
        b_freer_stands := (fun_mk (st := topS 5) l5 c5 k5).binds (ps := ["stand"]) fun _ _ _ _ _ _ us hl => match us, hl with | [_], _ => rfl,
        F_has_freer := fun_mk (st := topS 4) l4 c4 k4,
        g_has_freer := PySem.W.mg_of X G a4,
        b_has_freer := (fun_mk (st := topS 4) l4 c4 k4).binds (ps := ["present", "stand"]) fun _ _ _ _ _ _ us hl => match us, hl with | [_, _], _ => rfl,
        F_freest := fun_mk (st := topS 3) l3 c3 k3,
        g_freest := PySem.W.mg_of X G a3,
        b_freest := (fun_mk (st := topS 3) l3 c3 k3).binds (ps := ["stands"]) fun _ _ _ _ _ _ us hl => match us, hl with | [_], _ => rfl,
        F_l_next := fun_mk (st := topS 8) l8 c8 k8,
        g_l_next := PySem.W.mg_of X G a8,
        b_l_next := (fun_mk (st := topS 8) l8 c8 k8).binds (ps := ["state", "many"]) fun _ _ _ _ _ _ us hl => match us, hl with | [_, _], _ => rfl,
        F_l_freer := fun_mk (st := topS 9) l9 c9 k9,
        g_l_freer := PySem.W.mg_of X G a9,
        b_l_freer := (fun_mk (st := topS 9) l9 c9 k9).binds (ps := ["first", "second"]) fun _ _ _ _ _ _ us hl => match us, hl with | [_, _], _ => rfl,
        F_l_freest := fun_mk (st := topS 10) l10 c10 k10,
        g_l_freest := PySem.W.mg_of X G a10,
        b_l_freest := (fun_mk (st := topS 10) l10 c10 k10).binds (ps := ["stands"]) fun _ _ _ _ _ _ us hl => match us, hl with | [_], _ => rfl,
        F_freer := fun_mk (st := topS 1) l1 c1 k1,
        g_freer := PySem.W.mg_of X G a1,
        b_freer := (fun_mk (st := topS 1) l1 c1 k1).binds (ps := ["first", "second"]) fun _ _ _ _ _ _ us hl => match us, hl with | [_, _], _ => rfl,
        F_l_entry := fun_mk (st := topS 11) l11 c11 k11,
        g_l_entry := PySem.W.mg_of X G a11,
        b_l_entry := (fun_mk (st := topS 11) l11 c11 k11).binds (ps := ["state", "most"]) fun _ _ _ _ _ _ us hl => match us, hl with | [_, _], _ => rfl,
        F_law := fun_mk (st := topS 12) l12 c12 k12,
        g_law := PySem.W.mg_of X G a12,
        b_law := (fun_mk (st := topS 12) l12 c12 k12).binds (ps := ["script"]) fun _ _ _ _ _ _ us hl => match us, hl with | [_], _ => rfl,
        n_abs := PySem.W.mg_none_of X G z_abs,
        n_any := PySem.W.mg_none_of X G z_any,
        n_bool := PySem.W.mg_none_of X G z_bool,
        n_enumerate := PySem.W.mg_none_of X G z_enumerate,
        n_int := PySem.W.mg_none_of X G z_int,
        n_isinstance := PySem.W.mg_none_of X G z_isinstance,
        n_len := PySem.W.mg_none_of X G z_len,
        n_list := PySem.W.mg_none_of X G z_list,
        n_range := PySem.W.mg_none_of X G z_range,
        n_set := PySem.W.mg_none_of X G z_set,
        n_sorted := PySem.W.mg_none_of X G z_sorted,
        n_tuple := PySem.W.mg_none_of X G z_tuple,
        q_has_freer := ⟨⟨_, _, _, _, _, _, _, _, rfl, l4, c4⟩⟩,
        tb_has_freer := TB (cc4, cp4) (by simp) }
    have TL : TxL w (fun i => match i with | 4 => cc4 | _ => fa) (fun i => match i with | 4 => cp4 | _ => fa) := {
      wl := rfl,
      pt_has_freer := (by show (cp4, tabP cp4) ∈ ([(cp4, tabP cp4)] : List (Addr × (Heap → Prop))); simp) }
    exact oklaw (P := P) (w := w) (base := base) T TL
end K29
open PySem PySem.W PyProof.Rows
set_option maxRecDepth 100000 in
set_option maxHeartbeats 0 in
theorem PySem.Challenge.cw_scarp_k29_freest_stands_holds : PySem.Challenge.rw_scarp_k29_freest_stands.Holds := by
  w_on; o_law; k_head; (case hw => w_witness2)
  k_fill
  refine DL.walkGT (n := 63) (k := 5) (x := "script") (C := fun _ => L2.CX0) rfl (by decide) rfl ⟨rfl, by decide, by decide⟩ (fun w h Y => PySem.W.kIn_of Y) ?F (fun _ _ _ _ _ z => z)
  case F =>
    intro w mg fa h KX G hT hmg
    refine' K29.facts KX G hT hmg ?a7 ?l7 ?c7 ?k7 ?a2 ?l2 ?c2 ?k2 ?a5 ?l5 ?c5 ?k5 ?a4 ?l4 ?c4 ?k4 ?lc4 ?p4 ?nt4 ?hd4 ?fr4 ?a3 ?l3 ?c3 ?k3 ?a8 ?l8 ?c8 ?k8 ?a9 ?l9 ?c9 ?k9 ?a10 ?l10 ?c10 ?k10 ?a1 ?l1 ?c1 ?k1 ?a11 ?l11 ?c11 ?k11 ?a12 ?l12 ?c12 ?k12 ?z_abs ?z_any ?z_bool ?z_enumerate ?z_int ?z_isinstance ?z_len ?z_list ?z_range ?z_set ?z_sorted ?z_tuple
    (case a7 => k_is)
    (case l7 => k_is)
    (case c7 => k_is)
    (case k7 => k_is)
    (case a2 => k_is)
    (case l2 => k_is)
    (case c2 => k_is)
    (case k2 => k_is)
    (case a5 => k_is)
    (case l5 => k_is)
    (case c5 => k_is)
    (case k5 => k_is)
    (case a4 => k_is)
    (case l4 => k_is)
    (case c4 => k_is)
    (case k4 => k_is)
    (case lc4 => k_is)
    (case p4 => rfl)
    (case nt4 => kernel_rfl)
    (case hd4 => kernel_rfl)
    (case fr4 => kernel_rfl)
    (case a3 => k_is)
    (case l3 => k_is)
    (case c3 => k_is)
    (case k3 => k_is)
    (case a8 => k_is)
    (case l8 => k_is)
    (case c8 => k_is)
    (case k8 => k_is)
    (case a9 => k_is)
    (case l9 => k_is)
    (case c9 => k_is)
    (case k9 => k_is)
    (case a10 => k_is)
    (case l10 => k_is)
    (case c10 => k_is)
    (case k10 => k_is)
    (case a1 => k_is)
    (case l1 => k_is)
    (case c1 => k_is)
    (case k1 => k_is)
    (case a11 => k_is)
    (case l11 => k_is)
    (case c11 => k_is)
    (case k11 => k_is)
    (case a12 => k_is)
    (case l12 => k_is)
    (case c12 => k_is)
    (case k12 => k_is)
    (case z_abs => k_is)
    (case z_any => k_is)
    (case z_bool => k_is)
    (case z_enumerate => k_is)
    (case z_int => k_is)
    (case z_isinstance => k_is)
    (case z_len => k_is)
    (case z_list => k_is)
    (case z_range => k_is)
    (case z_set => k_is)
    (case z_sorted => k_is)
    (case z_tuple => k_is)
end
