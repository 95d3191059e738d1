import PyProof.Rows.All
import Wide.All
import OpenK.AllK
import Wide.FinOn
import HandS.TupMul
import HandS.RaiseMore
import HandS.SortInts
import HandS.Conv
import HandS.SetKeys
import HandS.ForMost
import HandS.ForExc
import HandS.Deep
import HandS.Flow
import HandS.TupAny
import HandS.Strs
import HandS.IsInst
import HandS.ExcIs
import HandS.DictComp
import KE.GoesEnum
import KE.DataMinMax
import KE.DatumOrd
import HandS.HotCalls
import HandS.Style
import HandS.SetFor
import HandS.Text
import HandS.CallLocal
import HandS.WordsDict
import PyProof.Rows.SeqMore
import HandS.SortRule
import HandS.TryMany
import HandS.AnyAll
import HandS.TupLe
import KE.KNestM
import HandS.EndBits
import PySem.Challenge.RW_scarp_k04_machines_read_logs
set_option Elab.async false
set_option linter.all false
set_option maxRecDepth 100000
set_option maxHeartbeats 4000000
namespace DL
open PySem PySem.Spec PyProof.Rows L2
def TupX (K : PySem.W.Frag) (H : Hp) (a : Addr) (xs : List V) : Prop :=
  (∃ o : Obj, H a = some (.frz o (.tup xs)) ∧ o.dict = none) ∨
    ∃ (o : Obj) (its : Array Value) (n : Nat), K.lookup a = some o ∧ o.cls = .type "tuple" ∧ o.dict = none ∧ o.data = .seq its n ∧ its.size ≤ sizeLine ∧ Vals xs its.toList
theorem TupX.old {K : PySem.W.Frag} {H : Hp} {a : Addr} {xs : List V} (h : TupX K H a xs) : SqT K H a xs := by
  rcases h with ⟨o, e, _⟩ | ⟨o, its, n, h1, h2, _, h3⟩
  · exact .inl (.inr ⟨o, e⟩)
  · exact .inr ⟨o, its, n, h1, h2, h3⟩
def tupO (its : List Value) : Obj := { cls := .type "tuple", data := .seq its.toArray }
def NewT (H : Hp) (Q : VK) (xs : List V) : Prop := ∀ (p : Addr) (o : Obj), H p = none → o.dict = none → Q (.ref p) (upd H p (.frz o (.tup xs)))
section
variable {X : Cx} {pins : List (Addr × Obj)} {σ : L2.St} {H : Hp} {s : Shared}
theorem Inv.laidT {xs : List V} {its : List Value} (I : L2.Inv X pins σ H s) (r : Vals xs its) (hz : xs.length ≤ sizeLine) :
    L2.Inv X pins σ (upd H s.heap.objs.size (.frz (tupO its) (.tup xs))) { s with heap := s.heap.push (tupO its) } :=
  I.laid (t' := s.toks) (o := .frz (tupO its) (.tup xs)) (fun _ _ e => Heap.get?_push_of_some _ e) (Nat.le_refl _) ⟨Heap.get?_push_size _ rfl, hz, its, r, IsTup.new _ _⟩
theorem Inv.laidE {Q : VK} {xs : List V} {its : List Value} (I : L2.Inv X pins σ H s) (r : Vals xs its) (hz : xs.length ≤ sizeLine) (q : NewT H Q xs) :
    EP X pins σ Q (.ref s.heap.objs.size) { s with heap := s.heap.push (tupO its) } :=
  ⟨.ref s.heap.objs.size, _, Inv.laidT I r hz, rfl, q _ _ (I.hok.fresh (Nat.le_refl _)) rfl⟩
end
/-- (a, b) -/
def tTupX (t : TA) : TE := fun σ H Q => t σ H fun xs H1 => xs.length ≤ sizeLine ∧ NewT H1 Q xs
theorem pe_tupX {X : Cx} {es : List Expr} {t : TA} {pos : Pos} {c} (h : PA X es t) : PE X (.Tuple es c pos) (tTupX t) := by
  constructor
  intro pins s σ H Q I hq
  apply wpAny_Tuple_spliced
  refine thn (h.run pos pins s σ H _ I hq) ?_
  rintro us s1 ⟨xs, H1, J, r, z, q⟩
  exact ⟨r.length ▸ z, Inv.laidE J r z q⟩
/-- tuple(x) -/
def rTupleX (K : PySem.W.Frag) : List V → Hp → VK → Prop := fun vs H Q => ∃ p xs, vs = [.ref p] ∧ ((SqL K H p xs ∧ NewT H Q xs) ∨ (SqT K H p xs ∧ Q (.ref p) H))
theorem cr_tupleX {X : Cx} : CallR X (.type "tuple") (rTupleX X.K) := by
  rintro pins s σ H vs us Q I r ⟨p, xs, rfl, h⟩
  rw [Vals.ref1 r]
  rcases h with ⟨hl, q⟩ | ⟨ht, q⟩
  · obtain ⟨its, rv, il, hz⟩ := I.list hl
    have le : xs.length ≤ sizeLine := by
      have := rv.length
      omega
    refine call_tuple_list il.isList (fun h' keep => ?_) (by rw [List.size_toArray, ← rv.length]; exact le)
    exact Inv.laidE (Q := Q) (I.kept (t' := s.toks) keep) rv le q
  · obtain ⟨its, _, it, _⟩ := I.tuple ht
    exact call_tuple_same it ⟨.ref p, H, I, rfl, q⟩
/-- t + u -/
def rCatX (K : PySem.W.Frag) : R2 := fun x y H Q => ∃ a b xs ys, x = .ref a ∧ y = .ref b ∧ SqT K H a xs ∧ SqT K H b ys ∧ xs.length + ys.length ≤ sizeLine ∧
  (xs = [] → Q (.ref b) H) ∧ (xs ≠ [] → ys = [] → Q (.ref a) H) ∧ (xs ≠ [] → ys ≠ [] → NewT H Q (xs ++ ys))
theorem op_catX {X : Cx} : OpR X (binaryOp .Add) (rCatX X.K) := by
  rintro pins s σ H x y v u Q I rx ry ⟨a, b, xs, ys, rfl, rfl, ha, hb, hz, q0, q1, q2⟩
  cases rx
  cases ry
  obtain ⟨i1, r1, p1, _⟩ := I.tuple ha
  obtain ⟨i2, r2, p2, _⟩ := I.tuple hb
  by_cases hx : xs = []
  · subst hx
    cases r1
    exact cat_tup0 p1 p2 ⟨.ref b, H, I, rfl, q0 rfl⟩
  · refine HT.cat_tup p1 p2 (fun e => hx (r1.nil_iff.mp e)) (fun e => ⟨.ref a, H, I, rfl, q1 hx (r2.nil_iff.mp e)⟩) (fun e => ?_) (by rw [← r1.length, ← r2.length]; exact hz)
    exact Inv.laidE (Q := Q) I (r1.append r2) (by rw [List.length_append]; exact hz) (q2 hx fun w => e (r2.nil_iff.mpr w))
/-- t[lo:hi] -/
def rSlX (K : PySem.W.Frag) : V → Option Int → Option Int → Hp → VK → Prop := fun x lo hi H Q => ∃ a xs, x = .ref a ∧ SqT K H a xs ∧
  (HT.sIx xs.length 0 lo = 0 ∧ HT.sIx xs.length xs.length hi = xs.length → Q (.ref a) H) ∧ (¬ (HT.sIx xs.length 0 lo = 0 ∧ HT.sIx xs.length xs.length hi = xs.length) → NewT H Q (cutV xs lo hi))
theorem sl_tupX {X : Cx} : SlR X (rSlX X.K) := by
  rintro pins s σ H x v vl vu lo hi sl Q I rx hs pl pu ⟨a, xs, rfl, hx, q1, q2⟩
  cases rx
  obtain ⟨its, r, ht, hz⟩ := I.tuple hx
  have len : its.toArray.size = xs.length := by rw [List.size_toArray]; exact r.length.symm
  refine ⟨"tuple", _, PyProof.Rows.slot_tuple_getitem.lookup, ht.typeIs, ?_⟩
  by_cases hw : HT.sIx xs.length 0 lo = 0 ∧ HT.sIx xs.length xs.length hi = xs.length
  · exact getItem_tuple_whole ht hs pl pu (by rw [len]; exact hw) ⟨.ref a, H, I, rfl, q1 hw⟩
  · refine HT.getItem_tuple_cut ht hs pl pu (by rw [len]; exact hw) ?_ (by rw [len]; exact hz)
    rw [len]
    exact Inv.laidE (Q := Q) I ((r.drop (HT.sIx xs.length 0 lo)).take (HT.sIx xs.length xs.length hi - HT.sIx xs.length 0 lo)) (Nat.le_trans (cutV_length xs lo hi) hz) (q2 hw)
/-- t.index(x) and the like -/
def tBMX (K : PySem.W.Frag) (r : V → List V → Hp → VK → Prop) (to : TE) (t : TA) : TE := fun σ H Q => to σ H fun x H1 => (∃ p xs, x = .ref p ∧ TupX K H1 p xs) ∧ t σ H1 fun vs H2 => r x vs H2 Q
theorem TupX.is {X : Cx} {pins : List (Addr × Obj)} {σ : L2.St} {H : Hp} {s : Shared} {p : Addr} {xs : List V} (I : L2.Inv X pins σ H s) (h : TupX X.K H p xs) : s.TypeIs (.ref p) "tuple" ∧ ∃ ob, s.heap.get? p = some ob ∧ ob.dict = none := by
  obtain ⟨its, _, it, _⟩ := I.tuple h.old
  refine ⟨it.typeIs, ?_⟩
  rcases h with ⟨o, e, d⟩ | ⟨o, its, n, h1, _, d, _⟩
  · exact ⟨o, (I.hok p _ e).1, d⟩
  · exact ⟨o, I.kIn p o h1, d⟩
theorem pe_bmX {X : Cx} {id : String} {name : Str} {r : V → List V → Hp → VK → Prop} {o e : Expr} {es : List Expr} {to : TE} {t : TA} {apos cpos : Pos} (pa : PlainAttrs "tuple") (slot : Slot "tuple" name id) (hty : typeOf (.builtin id) = pure (.type "method_descriptor")) (hm : MtR X id r) (ho : PE X o to) (ha : PA X (e :: es) t)
    (h1 : attributeBase o name X.env (eval o X.env) = eval o X.env := by rfl)
    (h2 : ((backTo cpos (starEach (e :: es) X.env)).all (fun x => !x.1) && (backToKw cpos (keywordEach [] X.env)).all (fun x => x.1.isSome)
      && decide ((e :: es).length + ([] : List Keyword).length + (if ([] : List Keyword).isEmpty then 0 else 1) < 30)) = true := by rfl)
    (h3 : (apos.endLine == cpos.line) = true := by rfl) (h4 : starEach (e :: es) X.env = (false, eval e X.env) :: starEach es X.env := by rfl) (h5 : (backTo cpos (starEach es X.env)).any (·.1) = false := by rfl) :
    PE X (.Call (.Attribute o name apos) (e :: es) [] cpos) (tBMX X.K r to t) := by
  constructor
  intro pins s σ H Q I h
  refine wpAny_Call_method_late h1 h2 h3 rfl (thn (ho.run pins s σ H _ I h) ?_)
  rintro v s1 ⟨x, H1, J, rx, ⟨p, xs, rfl, tx⟩, q1⟩
  cases rx
  obtain ⟨ty, ob, g, d⟩ := TupX.is J tx
  refine ⟨"tuple", id, pa, slot, hty, ty, fun a z => by cases z; exact ⟨ob, g, d⟩, ?_⟩
  have A := ha.run cpos pins s1 σ H1 _ J q1
  rw [h4] at A ⊢
  refine Calls.callWith_builtin (by show (false || (backTo cpos (starEach es X.env)).any (·.1)) = false; rw [h5]; rfl) (Calls.evalArgs_plain (thn A ?_))
  rintro us s2 ⟨vs, H2, J2, r2, q2⟩
  exact hm pins s2 σ H2 (.ref p) vs (.ref p) us Q J2 rfl r2 q2
abbrev D := PyData
def keyOf : Key → D
  | .inl i => .int i
  | .inr x => .str x
/-- a def (or another thing that stands still), named by its address -/
def fnD (a : Addr) : D := .dict [(.none, .int (a : Nat))]
mutual
/-- data; its tuples have no dict of their own -/
inductive Dx (K : PySem.W.Frag) (H : Hp) : V → D → Prop
  | non : Dx K H .non .none
  | bl (b : Bool) : Dx K H (.bl b) (.bool b)
  | int (i : Int) : Dx K H (.int i) (.int i)
  | str (x : Str) : Dx K H (.str x) (.str x)
  | lst {a : Addr} {xs : List V} {ds : List D} : SqL K H a xs → DxAll K H xs ds → Dx K H (.ref a) (.list ds)
  | tup {a : Addr} {xs : List V} {ds : List D} : TupX K H a xs → DxAll K H xs ds → Dx K H (.ref a) (.tuple ds)
  | dct {a : Addr} {xs : List (Key × V)} {ds : List (D × D)} : H a = some (.dK xs) → DxKv K H xs ds → Dx K H (.ref a) (.dict ds)
  | fn (a : Addr) : Dx K H (.ref a) (fnD a)
inductive DxKv (K : PySem.W.Frag) (H : Hp) : List (Key × V) → List (D × D) → Prop
  | nil : DxKv K H [] []
  | cons {k : Key} {v : V} {d : D} {xs : List (Key × V)} {ds : List (D × D)} : Dx K H v d → DxKv K H xs ds → DxKv K H ((k, v) :: xs) ((keyOf k, d) :: ds)
inductive DxAll (K : PySem.W.Frag) (H : Hp) : List V → List D → Prop
  | nil : DxAll K H [] []
  | cons {v : V} {vs : List V} {d : D} {ds : List D} : Dx K H v d → DxAll K H vs ds → DxAll K H (v :: vs) (d :: ds)
end
mutual
theorem Dx.old {K : PySem.W.Frag} {H : Hp} : ∀ {v : V} {d : D}, Dx K H v d → d.hasDict = false → L2.Dp K H v d
  | _, _, .non, _ => .non
  | _, _, .bl b, _ => .bl b
  | _, _, .int i, _ => .int i
  | _, _, .str x, _ => .str x
  | _, .list ds, .lst h a, z => .lst h (a.old (by simpa only [PyData.hasDict] using z))
  | _, .tuple ds, .tup h a, z => .tup h.old (a.old (by simpa only [PyData.hasDict] using z))
  | _, _, .dct _ _, z => absurd z (by simp only [PyData.hasDict]; decide)
  | _, _, .fn a, z => absurd z (by unfold fnD; simp only [PyData.hasDict]; decide)
theorem DxAll.old {K : PySem.W.Frag} {H : Hp} : ∀ {vs : List V} {ds : List D}, DxAll K H vs ds → PyData.hasDictAll ds = false → L2.DpAll K H vs ds
  | _, _, .nil, _ => .nil
  | _, _ :: _, .cons h t, z => by
    simp only [PyData.hasDictAll, Bool.or_eq_false_iff] at z
    exact .cons (h.old z.1) (t.old z.2)
end
theorem noDct {d : D} (h : SeqAt.shaped d = true) : d.hasDict = false := PySem.PyData.hasDict_of_canLay d (SeqAt.canLay_of_shaped h)
end DL
namespace DL
open PySem PySem.Spec PyProof.Rows L2
variable {K : PySem.W.Frag}
theorem rdUp {F F' : Hp} {a : Addr} {u : HO} (e : Same F F') (h : Rd F a u) : Rd F' a u := by
  rcases h with h | ⟨o, h⟩
  · exact .inl (e _ _ h)
  · exact .inr ⟨o, e _ _ h⟩
theorem slUp {F F' : Hp} {a : Addr} {xs : List V} (e : Same F F') (h : SqL K F a xs) : SqL K F' a xs := h.elim (fun h => .inl (rdUp e h)) .inr
theorem stUp {F F' : Hp} {a : Addr} {xs : List V} (e : Same F F') (h : SqT K F a xs) : SqT K F' a xs := h.elim (fun h => .inl (rdUp e h)) .inr
theorem txUp {F F' : Hp} {a : Addr} {xs : List V} (e : Same F F') (h : TupX K F a xs) : TupX K F' a xs := h.elim (fun ⟨o, h, d⟩ => .inl ⟨o, e _ _ h, d⟩) .inr
mutual
theorem dpUp {F F' : Hp} (e : Same F F') : ∀ {v : V} {d : D}, Dx K F v d → Dx K F' v d
  | _, _, .non => .non
  | _, _, .bl b => .bl b
  | _, _, .int i => .int i
  | _, _, .str x => .str x
  | _, _, .lst h a => .lst (slUp e h) (dpAllUp e a)
  | _, _, .tup h a => .tup (txUp e h) (dpAllUp e a)
  | _, _, .dct h a => .dct (e _ _ h) (dpKvUp e a)
  | _, _, .fn a => .fn a
theorem dpKvUp {F F' : Hp} (e : Same F F') : ∀ {vs : List (Key × V)} {ds : List (D × D)}, DxKv K F vs ds → DxKv K F' vs ds
  | _, _, .nil => .nil
  | _, _, .cons h t => .cons (dpUp e h) (dpKvUp e t)
theorem dpAllUp {F F' : Hp} (e : Same F F') : ∀ {vs : List V} {ds : List D}, DxAll K F vs ds → DxAll K F' vs ds
  | _, _, .nil => .nil
  | _, _, .cons h t => .cons (dpUp e h) (dpAllUp e t)
end
theorem dpAllLen {F : Hp} : ∀ {vs : List V} {ds : List D}, DxAll K F vs ds → vs.length = ds.length
  | _, _, .nil => rfl
  | _, _, .cons _ t => by simp [dpAllLen t]
theorem dpAllGet {F : Hp} : ∀ {vs : List V} {ds : List D} {i : Nat} {d : D}, DxAll K F vs ds → ds[i]? = some d → ∃ v, vs[i]? = some v ∧ Dx K F v d
  | _, _, _, _, .nil, e => by simp at e
  | _, _, 0, _, .cons h _, e => by simp at e; subst e; exact ⟨_, rfl, h⟩
  | _, _, i + 1, _, .cons _ t, e => by
    obtain ⟨v, h1, h2⟩ := dpAllGet (i := i) t (by simpa using e)
    exact ⟨v, by simpa using h1, h2⟩
theorem dpAllApp {F : Hp} : ∀ {vs ws : List V} {ds es : List D}, DxAll K F vs ds → DxAll K F ws es → DxAll K F (vs ++ ws) (ds ++ es)
  | _, _, _, _, .nil, h => h
  | _, _, _, _, .cons a t, h => .cons a (dpAllApp t h)
theorem dpAllTake {F : Hp} : ∀ {vs : List V} {ds : List D} (n : Nat), DxAll K F vs ds → DxAll K F (vs.take n) (ds.take n)
  | _, _, 0, _ => .nil
  | _, _, _ + 1, .nil => .nil
  | _, _, n + 1, .cons a t => .cons a (dpAllTake n t)
theorem dpAllDrop {F : Hp} : ∀ {vs : List V} {ds : List D} (n : Nat), DxAll K F vs ds → DxAll K F (vs.drop n) (ds.drop n)
  | _, _, 0, h => h
  | _, _, _ + 1, .nil => .nil
  | _, _, n + 1, .cons _ t => dpAllDrop n t
theorem dpAllSet {F : Hp} {v : V} {d : D} (hv : Dx K F v d) : ∀ {vs : List V} {ds : List D} (i : Nat), DxAll K F vs ds → DxAll K F (vs.set i v) (ds.set i d)
  | _, _, _, .nil => .nil
  | _, _, 0, .cons _ t => .cons hv t
  | _, _, i + 1, .cons a t => .cons a (dpAllSet hv i t)
theorem dpAllErase {F : Hp} : ∀ {vs : List V} {ds : List D} (i : Nat), DxAll K F vs ds → DxAll K F (vs.eraseIdx i) (ds.eraseIdx i)
  | _, _, _, .nil => .nil
  | _, _, 0, .cons _ t => t
  | _, _, i + 1, .cons a t => .cons a (dpAllErase i t)
inductive Ow where
  | lst (ds : List D)
  | lls (dss : List (List D))
  | dK (kvs : List (Key × D))
  /-- a dict that is locked: it is gone through -/
  | dF (kvs : List (Key × D))
inductive Ent where
  | no
  | dat (d : D)
  | own (w : Ow)
abbrev Rho := List Ent
def KD (K : PySem.W.Frag) (F : Hp) : List (Key × V) → List (Key × D) → Prop := Paired fun p q => p.1 = q.1 ∧ Dx K F p.2 q.2
def OwRep (K : PySem.W.Frag) (F H : Hp) (a : Addr) (fp : List Addr) : Ow → Prop
  | .lst ds => fp = [a] ∧ ∃ vs, H a = some (.lst vs) ∧ DxAll K F vs ds
  | .lls dss => ∃ bs : List Addr, fp = a :: bs ∧ fp.Nodup ∧ H a = some (.lst (bs.map V.ref)) ∧ Paired (fun b ds => ∃ vs, H b = some (.lst vs) ∧ DxAll K F vs ds) bs dss
  | .dK kvs => fp = [a] ∧ ∃ xs, H a = some (.dK xs) ∧ KD K F xs kvs
  | .dF kvs => fp = [] ∧ ∃ od xs, F a = some (.frz od (.dK xs)) ∧ KD K F xs kvs
theorem pairedMap {α β : Type} {R S : α → β → Prop} : ∀ {xs : List α} {ys : List β}, Paired R xs ys → (∀ x y, x ∈ xs → R x y → S x y) → Paired S xs ys
  | _, _, .nil, _ => .nil
  | _, _, .cons r t, f => .cons (f _ _ (List.mem_cons_self) r) (pairedMap t fun x y m => f x y (List.mem_cons_of_mem _ m))
theorem OwRep.up {F F' H H' : Hp} {a : Addr} {fp : List Addr} {w : Ow} (h : OwRep K F H a fp w) (e : Same F F') (k : ∀ b ∈ fp, H' b = H b) : OwRep K F' H' a fp w := by
  cases w with
  | lst ds =>
    obtain ⟨rfl, vs, h1, h2⟩ := h
    exact ⟨rfl, vs, (k a (by simp)).trans h1, dpAllUp e h2⟩
  | lls dss =>
    obtain ⟨bs, rfl, nd, h1, h2⟩ := h
    refine ⟨bs, rfl, nd, (k a (by simp)).trans h1, pairedMap h2 fun b ds m ⟨vs, q1, q2⟩ => ⟨vs, (k b (by simp [m])).trans q1, dpAllUp e q2⟩⟩
  | dK kvs =>
    obtain ⟨rfl, xs, h1, h2⟩ := h
    exact ⟨rfl, xs, (k a (by simp)).trans h1, pairedMap h2 fun p q _ r => ⟨r.1, dpUp e r.2⟩⟩
  | dF kvs =>
    obtain ⟨rfl, od, xs, h1, h2⟩ := h
    exact ⟨rfl, od, xs, e _ _ h1, pairedMap h2 fun p q _ r => ⟨r.1, dpUp e r.2⟩⟩
/-- the tables of code objects: what stands there is told by a sentence that stays true while they grow -/
class TabC where
  tabs : List Addr
def tabP (P : Addr) : Heap → Prop := fun h => ∃ ps : Array Value, h.get? P = some { cls := .none, data := .fields ps } ∧ TriplesOk ps.toList
variable [TabC]
def TabsE (H : Hp) : Prop := ∀ P ∈ TabC.tabs, H P = some (.ext (tabP P))
structure Cc where
  K : PySem.W.Frag
  P : List (Nat × Addr)
  W : Addr → Prop
  F0 : Hp
  B : Hp
structure SimF (c : Cc) (F H : Hp) (σ : L2.St) (ρ : Rho) (fp : Nat → List Addr) : Prop where
  f0 : Same c.F0 F
  fh : Same F H
  keep : ∀ a o, c.B a = some o → ¬ c.W a → H a = some o
  dom : ∀ a, c.B a ≠ none → H a ≠ none
  av : ∀ a, c.B a ≠ none → c.F0 a = none → F a = none
  par : ∀ (i : Nat) (a : Addr), (i, a) ∈ c.P → σ[i]? = some (some (.ref a))
  dat : ∀ (i : Nat) (d : D), ρ[i]? = some (.dat d) → ∃ v, σ[i]? = some (some v) ∧ Dx c.K F v d
  own : ∀ (i : Nat) (w : Ow), ρ[i]? = some (.own w) → ∃ a, σ[i]? = some (some (.ref a)) ∧ OwRep c.K F H a (fp i) w
  ownF : ∀ (i : Nat) (w : Ow) (b : Addr), ρ[i]? = some (.own w) → b ∈ fp i → F b = none ∧ H b ≠ none ∧ (c.B b = none ∨ c.W b)
  sep : ∀ (i j : Nat) (w w' : Ow) (b : Addr), ρ[i]? = some (.own w) → ρ[j]? = some (.own w') → b ∈ fp i → b ∈ fp j → i = j
  len : σ.length = ρ.length
  wp : ∀ (i : Nat) (w : Ow) (b : Addr), ρ[i]? = some (.own w) → b ∈ fp i → ∀ j, (j, b) ∈ c.P → j = i
  pb : ∀ j b, (j, b) ∈ c.P → c.B b ≠ none
  tb : TabsE c.B
  tw : ∀ P ∈ TabC.tabs, ¬ c.W P
def Sim (c : Cc) (F H : Hp) (σ : L2.St) (ρ : Rho) : Prop := ∃ fp, SimF c F H σ ρ fp
section
variable {c : Cc} {F F' H H' : Hp} {σ σ' : L2.St} {ρ ρ' : Rho} {fp : Nat → List Addr} {p : Addr} {o : HO}
theorem Sim.fh (h : Sim c F H σ ρ) : Same F H := let ⟨_, s⟩ := h; s.fh
theorem Sim.f0 (h : Sim c F H σ ρ) : Same c.F0 F := let ⟨_, s⟩ := h; s.f0
theorem Sim.len (h : Sim c F H σ ρ) : σ.length = ρ.length := let ⟨_, s⟩ := h; s.len
theorem Sim.dat (h : Sim c F H σ ρ) {i : Nat} {d : D} (e : ρ[i]? = some (.dat d)) : ∃ v, σ[i]? = some (some v) ∧ Dx c.K F v d := let ⟨_, s⟩ := h; s.dat i d e
theorem sameNew (h : H p = none) : Same H (upd H p o) := fun a u e => by
  rw [upd_ne (ne_of_none e h)]
  exact e
theorem sameUpd (e : Same F H) (h : F p = none) : Same F (upd H p o) := fun a u q => by
  rw [upd_ne (ne_of_none q h)]
  exact e a u q
theorem sameUpd2 (e : Same F H) (h : H p = some o) : Same (upd F p o) H := fun a u q => by
  by_cases z : a = p
  · subst z
    rw [upd_same] at q
    rw [h]
    exact q
  · rw [upd_ne z] at q
    exact e a u q
theorem freeF (e : Same F H) (h : H p = none) : F p = none := Same.free e h
/-- a new object that nobody knows -/
theorem Sim.heap (h : Sim c F H σ ρ) (hp : H p = none) : Sim c F (upd H p o) σ ρ := by
  obtain ⟨fp, s⟩ := h
  have np : ∀ a, H a ≠ none → a ≠ p := fun a ha z => ha (z ▸ hp)
  refine ⟨fp, s.f0, s.fh.trans (sameNew hp), fun a u q w => ?_, fun a q => ?_, s.av, s.par, s.dat, fun i w q => ?_, fun i w b q m => ?_, s.sep, s.len, s.wp, s.pb, s.tb, s.tw⟩
  · have := s.keep a u q w
    rw [upd_ne (np a (by simp [this]))]
    exact this
  · rw [upd_ne (np a (s.dom a q))]
    exact s.dom a q
  · obtain ⟨a, e1, e2⟩ := s.own i w q
    exact ⟨a, e1, e2.up (Same.refl _) fun b m => upd_ne (np b (s.ownF i w b q m).2.1)⟩
  · obtain ⟨e1, e2, e3⟩ := s.ownF i w b q m
    exact ⟨e1, by rw [upd_ne (np b e2)]; exact e2, e3⟩
theorem SimF.tabs (s : SimF c F H σ ρ fp) : TabsE H := fun P m => s.keep P _ (s.tb P m) (s.tw P m)
theorem SimF.noTab (s : SimF c F H σ ρ fp) {P : Addr} (hm : P ∈ TabC.tabs) {i : Nat} {w : Ow} (q : ρ[i]? = some (.own w)) : P ∉ fp i := fun m => by
  rcases (s.ownF i w P q m).2.2 with z | z
  · rw [s.tb P hm] at z; cases z
  · exact s.tw P hm z
theorem Sim.tabs (h : Sim c F H σ ρ) : TabsE H := let ⟨_, s⟩ := h; s.tabs
/-- an object that is nobody's own becomes frozen -/
theorem SimF.freeze (s : SimF c F H σ ρ fp) (hp : H p = some o) (hB : c.B p = none) (no : ∀ (i : Nat) (w : Ow), ρ[i]? = some (.own w) → p ∉ fp i) (hf : F p = none) : SimF c (upd F p o) H σ ρ fp := by
  have e1 : Same F (upd F p o) := sameNew hf
  refine ⟨s.f0.trans e1, sameUpd2 s.fh hp, s.keep, s.dom, fun a q q2 => ?_, s.par, fun i d q => ?_, fun i w q => ?_, fun i w b q m => ?_, s.sep, s.len, s.wp, s.pb, s.tb, s.tw⟩
  · have : a ≠ p := fun z => by rw [z] at q; exact q hB
    rw [upd_ne this]
    exact s.av a q q2
  · obtain ⟨v, h1, h2⟩ := s.dat i d q
    exact ⟨v, h1, dpUp e1 h2⟩
  · obtain ⟨a, h1, h2⟩ := s.own i w q
    exact ⟨a, h1, h2.up e1 fun _ _ => rfl⟩
  · obtain ⟨h1, h2, h3⟩ := s.ownF i w b q m
    have : b ≠ p := fun z => no i w q (z ▸ m)
    exact ⟨by rw [upd_ne this]; exact h1, h2, h3⟩
/-- a new frozen object -/
theorem Sim.grow (h : Sim c F H σ ρ) (hp : H p = none) : Sim c (upd F p o) (upd H p o) σ ρ := by
  obtain ⟨fp, s⟩ := h
  obtain ⟨fp', s'⟩ := Sim.heap (o := o) ⟨fp, s⟩ hp
  -- the footprints are the old ones
  have np : ∀ a, H a ≠ none → a ≠ p := fun a ha z => ha (z ▸ hp)
  have s2 : SimF c F (upd H p o) σ ρ fp := by
    refine ⟨s.f0, s.fh.trans (sameNew hp), s'.keep, s'.dom, s.av, s.par, s.dat, fun i w q => ?_, fun i w b q m => ?_, s.sep, s.len, s.wp, s.pb, s.tb, s.tw⟩
    · obtain ⟨a, e1, e2⟩ := s.own i w q
      exact ⟨a, e1, e2.up (Same.refl _) fun b m => upd_ne (np b (s.ownF i w b q m).2.1)⟩
    · obtain ⟨e1, e2, e3⟩ := s.ownF i w b q m
      exact ⟨e1, by rw [upd_ne (np b e2)]; exact e2, e3⟩
  refine ⟨fp, s2.freeze upd_same ?_ (fun i w q m => (s.ownF i w p q m).2.1 hp) (freeF s.fh hp)⟩
  cases q : c.B p with
  | none => rfl
  | some u => exact absurd hp (s.dom p (by simp [q]))
/-- a slot gets data -/
theorem Sim.setDat (h : Sim c F H σ ρ) {i : Nat} {v : V} {d : D} (hv : Dx c.K F v d) (hi : i < ρ.length) (hP : ∀ a, (i, a) ∉ c.P) : Sim c F H (σ.set i (some v)) (ρ.set i (.dat d)) := by
  obtain ⟨fp, s⟩ := h
  have hi' : i < σ.length := by rw [s.len]; exact hi
  have own' : ∀ (j : Nat) (w : Ow), (ρ.set i (.dat d))[j]? = some (.own w) → j ≠ i ∧ ρ[j]? = some (.own w) := fun j w q => by
    by_cases z : j = i
    · subst z
      rw [List.getElem?_set_self hi] at q
      cases q
    · rw [List.getElem?_set_ne (Ne.symm z)] at q
      exact ⟨z, q⟩
  refine ⟨fp, s.f0, s.fh, s.keep, s.dom, s.av, fun j a m => ?_, fun j e q => ?_, fun j w q => ?_, fun j w b q m => s.ownF j w b (own' j w q).2 m, fun j k w w' b q q' => s.sep j k w w' b (own' j w q).2 (own' k w' q').2, by simpa using s.len, fun j w b q m => s.wp j w b (own' j w q).2 m, s.pb, s.tb, s.tw⟩
  · have z : j ≠ i := fun z => hP a (z ▸ m)
    rw [List.getElem?_set_ne (Ne.symm z)]
    exact s.par j a m
  · by_cases z : j = i
    · subst z
      rw [List.getElem?_set_self hi] at q
      cases q
      exact ⟨v, List.getElem?_set_self hi', hv⟩
    · rw [List.getElem?_set_ne (Ne.symm z)] at q ⊢
      exact s.dat j e q
  · obtain ⟨z, q'⟩ := own' j w q
    rw [List.getElem?_set_ne (Ne.symm z)]
    exact s.own j w q'
/-- forget entries -/
theorem Sim.weak (h : Sim c F H σ ρ) (hl : ρ'.length = ρ.length) (hw : ∀ i : Nat, ρ'[i]? = ρ[i]? ∨ ∀ e : Ent, ρ'[i]? = some e → e = .no) : Sim c F H σ ρ' := by
  obtain ⟨fp, s⟩ := h
  have o' : ∀ (j : Nat) (w : Ow), ρ'[j]? = some (.own w) → ρ[j]? = some (.own w) := fun j w q => (hw j).elim (fun z => z ▸ q) fun z => by cases z _ q
  have d' : ∀ (j : Nat) (d : D), ρ'[j]? = some (.dat d) → ρ[j]? = some (.dat d) := fun j d q => (hw j).elim (fun z => z ▸ q) fun z => by cases z _ q
  exact ⟨fp, s.f0, s.fh, s.keep, s.dom, s.av, s.par, fun i d q => s.dat i d (d' i d q), fun i w q => s.own i w (o' i w q), fun i w b q => s.ownF i w b (o' i w q), fun i j w w' b q q' => s.sep i j w w' b (o' i w q) (o' j w' q'), by rw [hl]; exact s.len, fun i w b q => s.wp i w b (o' i w q), s.pb, s.tb, s.tw⟩
end
structure Gm where
  K : PySem.W.Frag
  ps : List Nat
  xe : XK
/-- no exception leaves -/
abbrev gm (K : PySem.W.Frag) (ps : List Nat) : Gm := ⟨K, ps, E0⟩
def Cc.ok (c : Cc) (g : Gm) : Prop := c.K = g.K ∧ c.P.map (·.1) = g.ps
variable {g : Gm}
/-- an operand: frozen data, or a list of one's own -/
inductive Arg where
  | d (x : D)
  | o (i : Nat)
def Arg.den (ρ : Rho) : Arg → Option D
  | .d x => some x
  | .o i => match ρ[i]? with
    | some (.own (.lst ds)) => some (.list ds)
    | _ => none
inductive ArgAt (K : PySem.W.Frag) (F : Hp) (σ : L2.St) (v : V) : Arg → Prop
  | d {x : D} : Dx K F v x → ArgAt K F σ v (.d x)
  | o {i : Nat} : σ[i]? = some (some v) → ArgAt K F σ v (.o i)
/-- an operand as the operations see it -/
def Opd (K : PySem.W.Frag) (F H : Hp) (v : V) (d : D) : Prop := Dx K F v d ∨ ∃ a vs ds, v = .ref a ∧ d = .list ds ∧ SqL K H a vs ∧ DxAll K F vs ds
inductive OpdAll (K : PySem.W.Frag) (F H : Hp) : List V → List D → Prop
  | nil : OpdAll K F H [] []
  | cons {v : V} {vs : List V} {d : D} {ds : List D} : Opd K F H v d → OpdAll K F H vs ds → OpdAll K F H (v :: vs) (d :: ds)
theorem Opd.dp {F H : Hp} {v : V} {d : D} (e : Same F H) (h : Opd K F H v d) : Dx K H v d := by
  rcases h with h | ⟨a, vs, ds, rfl, rfl, h1, h2⟩
  · exact dpUp e h
  · exact .lst h1 (dpAllUp e h2)
theorem Opd.list {F H : Hp} {v : V} {ds : List D} (e : Same F H) (h : Opd K F H v (.list ds)) : ∃ a vs, v = .ref a ∧ SqL K H a vs ∧ DxAll K F vs ds := by
  rcases h with h | ⟨a, vs, ds', rfl, q, h1, h2⟩
  · cases h with
    | lst h1 h2 => exact ⟨_, _, rfl, slUp e h1, h2⟩
  · cases q
    exact ⟨a, vs, rfl, h1, h2⟩
theorem Opd.tupX {F H : Hp} {v : V} {ds : List D} (e : Same F H) (h : Opd K F H v (.tuple ds)) : ∃ a vs, v = .ref a ∧ TupX K H a vs ∧ DxAll K F vs ds := by
  rcases h with h | ⟨a, vs, ds', rfl, q, h1, h2⟩
  · cases h with
    | tup h1 h2 => exact ⟨_, _, rfl, txUp e h1, h2⟩
  · cases q
theorem Opd.tup {F H : Hp} {v : V} {ds : List D} (e : Same F H) (h : Opd K F H v (.tuple ds)) : ∃ a vs, v = .ref a ∧ SqT K H a vs ∧ DxAll K F vs ds := by
  obtain ⟨a, vs, h1, h2, h3⟩ := Opd.tupX e h
  exact ⟨a, vs, h1, h2.old, h3⟩
theorem Opd.int {F H : Hp} {v : V} {i : Int} (h : Opd K F H v (.int i)) : v = .int i := by
  rcases h with h | ⟨a, vs, ds', rfl, q, h1, h2⟩
  · cases h; rfl
  · cases q
theorem Opd.bl {F H : Hp} {v : V} {i : Bool} (h : Opd K F H v (.bool i)) : v = .bl i := by
  rcases h with h | ⟨a, vs, ds', rfl, q, h1, h2⟩
  · cases h; rfl
  · cases q
theorem Opd.str {F H : Hp} {v : V} {i : Str} (h : Opd K F H v (.str i)) : v = .str i := by
  rcases h with h | ⟨a, vs, ds', rfl, q, h1, h2⟩
  · cases h; rfl
  · cases q
theorem Opd.non {F H : Hp} {v : V} (h : Opd K F H v .none) : v = .non := by
  rcases h with h | ⟨a, vs, ds', rfl, q, h1, h2⟩
  · cases h; rfl
  · cases q
theorem Arg.opd {c : Cc} {F H : Hp} {σ : L2.St} {ρ : Rho} {v : V} {d : D} {A : Arg} (h : Sim c F H σ ρ) (ha : ArgAt c.K F σ v A) (hd : A.den ρ = some d) : Opd c.K F H v d := by
  cases A with
  | d x =>
    have e : x = d := Option.some.inj hd
    subst e
    cases ha with
    | d ha => exact .inl ha
  | o i =>
    replace ha : σ[i]? = some (some v) := by
      cases ha with
      | o ha => exact ha
    obtain ⟨fp, s⟩ := h
    simp only [Arg.den] at hd
    split at hd
    · rename_i ds q
      cases hd
      obtain ⟨a, e1, _, vs, e2, e3⟩ := s.own i _ q
      have e : v = .ref a := by
        have : some (some v) = some (some (V.ref a)) := ha.symm.trans e1
        simpa using this
      exact .inr ⟨a, vs, ds, e, rfl, .inl (.inl e2), e3⟩
    · cases hd
theorem ArgAt.up {K : PySem.W.Frag} {F F' : Hp} {σ : L2.St} {v : V} {A : Arg} (ha : ArgAt K F σ v A) (e : Same F F') : ArgAt K F' σ v A := by
  cases ha with
  | d h => exact .d (dpUp e h)
  | o h => exact .o h
def EvD (g : Gm) (te : TE) (ρ : Rho) (d : D) (ρ' : Rho) : Prop := ∀ (c : Cc) (F H : Hp) (σ : L2.St), c.ok g → Sim c F H σ ρ → ∀ Q : VK, (∀ v F' H', Sim c F' H' σ ρ' → Same F F' → Dx c.K F' v d → Q v H') → te σ H Q
def EvO (g : Gm) (te : TE) (ρ : Rho) (A : Arg) (ρ' : Rho) : Prop := ∀ (c : Cc) (F H : Hp) (σ : L2.St), c.ok g → Sim c F H σ ρ → ∀ Q : VK, (∀ v F' H', Sim c F' H' σ ρ' → Same F F' → ArgAt c.K F' σ v A → Q v H') → te σ H Q
/-- a new list -/
def EvN (g : Gm) (te : TE) (ρ : Rho) (ds : List D) (ρ' : Rho) : Prop := ∀ (c : Cc) (F H : Hp) (σ : L2.St), c.ok g → Sim c F H σ ρ → ∀ Q : VK,
  (∀ p vs F' H', Sim c F' H' σ ρ' → Same F F' → H' p = none → DxAll c.K F' vs ds → Q (.ref p) (upd H' p (.lst vs))) → te σ H Q
def EvT (g : Gm) (tt : TT) (ρ : Rho) (b : Bool) (ρ' : Rho) : Prop := ∀ (c : Cc) (F H : Hp) (σ : L2.St), c.ok g → Sim c F H σ ρ → ∀ Q : Bool → Hp → Prop, (∀ F' H', Sim c F' H' σ ρ' → Same F F' → Q b H') → tt σ H Q
inductive ArgsAt (K : PySem.W.Frag) (F : Hp) (σ : L2.St) : List V → List Arg → Prop
  | nil : ArgsAt K F σ [] []
  | cons {v : V} {vs : List V} {A : Arg} {As : List Arg} : ArgAt K F σ v A → ArgsAt K F σ vs As → ArgsAt K F σ (v :: vs) (A :: As)
def EvA (g : Gm) (ta : TA) (ρ : Rho) (As : List Arg) (ρ' : Rho) : Prop := ∀ (c : Cc) (F H : Hp) (σ : L2.St), c.ok g → Sim c F H σ ρ → ∀ Q : List V → Hp → Prop, (∀ vs F' H', Sim c F' H' σ ρ' → Same F F' → ArgsAt c.K F' σ vs As → Q vs H') → ta σ H Q
def dens (ρ : Rho) : List Arg → Option (List D)
  | [] => some []
  | A :: As => match A.den ρ, dens ρ As with
    | some d, some ds => some (d :: ds)
    | _, _ => none
theorem ArgsAt.opds {c : Cc} {F H : Hp} {σ : L2.St} {ρ : Rho} (h : Sim c F H σ ρ) : ∀ {vs : List V} {As : List Arg} {ds : List D}, ArgsAt c.K F σ vs As → dens ρ As = some ds → OpdAll c.K F H vs ds
  | _, _, _, .nil, e => by cases e; exact .nil
  | _, _, _, .cons a t, e => by
    unfold dens at e
    split at e
    · rename_i d ds e1 e2
      cases e
      exact .cons (Arg.opd h a e1) (ArgsAt.opds h t e2)
    · cases e
theorem ArgsAt.up {c : Cc} {F F' : Hp} {σ : L2.St} (e : Same F F') : ∀ {vs : List V} {As : List Arg}, ArgsAt c.K F σ vs As → ArgsAt c.K F' σ vs As
  | _, _, .nil => .nil
  | _, _, .cons a t => .cons (a.up e) (ArgsAt.up e t)
/-- what an operation's value may be: it stood already, or a new tuple -/
inductive Res (K : PySem.W.Frag) (F H : Hp) : V → D → Hp → Hp → Prop
  | at {v : V} {d : D} : Dx K F v d → Res K F H v d F H
  | new {p : Addr} {o : Obj} {vs : List V} {ds : List D} : H p = none → o.dict = none → DxAll K F vs ds → Res K F H (.ref p) (.tuple ds) (upd F p (.frz o (.tup vs))) (upd H p (.frz o (.tup vs)))
theorem Res.sim {c : Cc} {F H F' H' : Hp} {σ : L2.St} {ρ : Rho} {v : V} {d : D} (h : Sim c F H σ ρ) (r : Res c.K F H v d F' H') : Sim c F' H' σ ρ ∧ Same F F' ∧ Dx c.K F' v d := by
  cases r with
  | «at» q => exact ⟨h, Same.refl _, q⟩
  | new hp ho ha =>
    rename_i p o vs ds
    have e : Same F (upd F p (.frz o (.tup vs))) := sameNew (freeF h.fh hp)
    exact ⟨h.grow hp, e, .tup (.inl ⟨o, upd_same, ho⟩) (dpAllUp e ha)⟩
def R2D (K : PySem.W.Frag) (r : R2) (d e z : D) : Prop := ∀ F H x y (Q : VK), Same F H → Opd K F H x d → Opd K F H y e → (∀ v F' H', Res K F H v z F' H' → Q v H') → r x y H Q
def R1D (K : PySem.W.Frag) (r : V → Hp → VK → Prop) (d z : D) : Prop := ∀ F H x (Q : VK), Same F H → Opd K F H x d → (∀ v F' H', Res K F H v z F' H' → Q v H') → r x H Q
def RCD (K : PySem.W.Frag) (r : List V → Hp → VK → Prop) (ds : List D) (z : D) : Prop := ∀ F H xs (Q : VK), Same F H → OpdAll K F H xs ds → (∀ v F' H', Res K F H v z F' H' → Q v H') → r xs H Q
def RMD (K : PySem.W.Frag) (r : V → List V → Hp → VK → Prop) (d : D) (ds : List D) (z : D) : Prop := ∀ F H x xs (Q : VK), Same F H → Opd K F H x d → OpdAll K F H xs ds → (∀ v F' H', Res K F H v z F' H' → Q v H') → r x xs H Q
/-- .. a new list -/
def R2N (K : PySem.W.Frag) (r : R2) (d e : D) (zs : List D) : Prop := ∀ F H x y (Q : VK), Same F H → Opd K F H x d → Opd K F H y e → (∀ p vs, H p = none → DxAll K F vs zs → Q (.ref p) (upd H p (.lst vs))) → r x y H Q
def RCN (K : PySem.W.Frag) (r : List V → Hp → VK → Prop) (ds : List D) (zs : List D) : Prop := ∀ F H xs (Q : VK), Same F H → OpdAll K F H xs ds → (∀ p vs, H p = none → DxAll K F vs zs → Q (.ref p) (upd H p (.lst vs))) → r xs H Q
section
variable {ta tb tc te : TE} {ρ ρ1 ρ2 ρ3 : Rho} {A B : Arg} {d e z : D} {r : R2} {t u : TT} {i : Nat}
theorem eo_of (h : EvD g te ρ d ρ1) : EvO g te ρ (.d d) ρ1 := fun c F H σ k s Q q => h c F H σ k s Q fun v F' H' s' e x => q v F' H' s' e (.d x)
theorem eo_own {ds : List D} (h : ρ[i]? = some (.own (.lst ds))) : EvO g (tVar i) ρ (.o i) ρ := fun c F H σ k s Q q => by
  obtain ⟨fp, sf⟩ := id s
  obtain ⟨a, e1, _⟩ := sf.own i _ h
  exact ⟨_, e1, q _ F H s (Same.refl _) (.o e1)⟩
theorem ed_var (h : ρ[i]? = some (.dat d)) : EvD g (tVar i) ρ d ρ := fun c F H σ k s Q q => by
  obtain ⟨v, e1, e2⟩ := s.dat h
  exact ⟨v, e1, q v F H s (Same.refl _) e2⟩
theorem ed_int {i : Int} : EvD g (tC (.int i)) ρ (.int i) ρ := fun c F H σ k s Q q => q _ F H s (Same.refl _) (.int i)
theorem ed_bl {i : Bool} : EvD g (tC (.bl i)) ρ (.bool i) ρ := fun c F H σ k s Q q => q _ F H s (Same.refl _) (.bl i)
theorem ed_str {i : Str} : EvD g (tC (.str i)) ρ (.str i) ρ := fun c F H σ k s Q q => q _ F H s (Same.refl _) (.str i)
theorem ed_non : EvD g (tC .non) ρ .none ρ := fun c F H σ k s Q q => q _ F H s (Same.refl _) .non
/-- a new list becomes data -/
theorem ed_ofN {ds : List D} (h : EvN g te ρ ds ρ1) : EvD g te ρ (.list ds) ρ1 := fun c F H σ k s Q q => h c F H σ k s Q fun p vs F' H' s' e hp ha => by
  have e2 := sameNew (o := .lst vs) (freeF s'.fh hp)
  exact q _ _ _ (s'.grow hp) (e.trans e2) (.lst (.inl (.inl upd_same)) (dpAllUp e2 ha))
theorem ed_op (ha : EvO g ta ρ A ρ1) (hb : EvO g tb ρ1 B ρ2) (hr : R2D g.K r d e z) (dA : A.den ρ2 = some d := by rfl) (dB : B.den ρ2 = some e := by rfl) : EvD g (tOp r ta tb) ρ z ρ2 := fun c F H σ k s Q q => by
  refine ha c F H σ k s _ fun x F1 H1 s1 e1 h1 => hb c F1 H1 σ k s1 _ fun y F2 H2 s2 e2 h2 => ?_
  have kk : c.K = g.K := k.1
  have o1 := Arg.opd s2 (h1.up e2) dA
  have o2 := Arg.opd s2 h2 dB
  rw [kk] at o1 o2
  refine hr F2 H2 x y Q s2.fh o1 o2 fun v F3 H3 rs => ?_
  rw [← kk] at rs
  obtain ⟨s3, e3, q3⟩ := rs.sim s2
  exact q v F3 H3 s3 ((e1.trans e2).trans e3) q3
theorem en_op {zs : List D} (ha : EvO g ta ρ A ρ1) (hb : EvO g tb ρ1 B ρ2) (hr : R2N g.K r d e zs) (dA : A.den ρ2 = some d := by rfl) (dB : B.den ρ2 = some e := by rfl) : EvN g (tOp r ta tb) ρ zs ρ2 := fun c F H σ k s Q q => by
  refine ha c F H σ k s _ fun x F1 H1 s1 e1 h1 => hb c F1 H1 σ k s1 _ fun y F2 H2 s2 e2 h2 => ?_
  have kk : c.K = g.K := k.1
  have o1 := Arg.opd s2 (h1.up e2) dA
  have o2 := Arg.opd s2 h2 dB
  rw [kk] at o1 o2
  refine hr F2 H2 x y Q s2.fh o1 o2 fun p vs hp ha => ?_
  exact q p vs F2 H2 s2 (e1.trans e2) hp (by rw [kk]; exact ha)
theorem ed_un {r : V → Hp → VK → Prop} (ha : EvO g ta ρ A ρ1) (hr : R1D g.K r d z) (dA : A.den ρ1 = some d := by rfl) : EvD g (tUn r ta) ρ z ρ1 := fun c F H σ k s Q q => by
  refine ha c F H σ k s _ fun x F1 H1 s1 e1 h1 => ?_
  have kk : c.K = g.K := k.1
  have o1 := Arg.opd s1 h1 dA
  rw [kk] at o1
  refine hr F1 H1 x Q s1.fh o1 fun v F3 H3 rs => ?_
  rw [← kk] at rs
  obtain ⟨s3, e3, q3⟩ := rs.sim s1
  exact q v F3 H3 s3 (e1.trans e3) q3
theorem ea_nil : EvA g tNil ρ [] ρ := fun c F H σ k s Q q => q [] F H s (Same.refl _) .nil
theorem ea_cons {tr : TA} {As : List Arg} (h : EvO g te ρ A ρ1) (hr : EvA g tr ρ1 As ρ2) : EvA g (tCons te tr) ρ (A :: As) ρ2 := fun c F H σ k s Q q =>
  h c F H σ k s _ fun v F1 H1 s1 e1 h1 => hr c F1 H1 σ k s1 _ fun vs F2 H2 s2 e2 h2 => q _ F2 H2 s2 (e1.trans e2) (.cons (h1.up e2) h2)
theorem ed_cb {r : List V → Hp → VK → Prop} {tr : TA} {As : List Arg} {ds : List D} (ha : EvA g tr ρ As ρ1) (hr : RCD g.K r ds z) (dA : dens ρ1 As = some ds := by rfl) : EvD g (tCB r tr) ρ z ρ1 := fun c F H σ k s Q q => by
  refine ha c F H σ k s _ fun xs F1 H1 s1 e1 h1 => ?_
  have kk : c.K = g.K := k.1
  have o1 := ArgsAt.opds s1 h1 dA
  rw [kk] at o1
  refine hr F1 H1 xs Q s1.fh o1 fun v F3 H3 rs => ?_
  rw [← kk] at rs
  obtain ⟨s3, e3, q3⟩ := rs.sim s1
  exact q v F3 H3 s3 (e1.trans e3) q3
theorem en_cb {r : List V → Hp → VK → Prop} {tr : TA} {As : List Arg} {ds zs : List D} (ha : EvA g tr ρ As ρ1) (hr : RCN g.K r ds zs) (dA : dens ρ1 As = some ds := by rfl) : EvN g (tCB r tr) ρ zs ρ1 := fun c F H σ k s Q q => by
  refine ha c F H σ k s _ fun xs F1 H1 s1 e1 h1 => ?_
  have kk : c.K = g.K := k.1
  have o1 := ArgsAt.opds s1 h1 dA
  rw [kk] at o1
  refine hr F1 H1 xs Q s1.fh o1 fun p vs hp ha => ?_
  exact q p vs F1 H1 s1 e1 hp (by rw [kk]; exact ha)
/-- a method of a built-in type; ty: what the receiver is -/
def TyD (T : String) : D → Prop
  | .list _ => T = "list"
  | .str _ => T = "str"
  | _ => False
theorem tyD_v {F H : Hp} {x : V} {d : D} {T : String} (e : Same F H) (h : Opd K F H x d) (ht : TyD T d) : tyV K T x H := by
  cases d with
  | list ds =>
    obtain ⟨a, vs, rfl, h1, _⟩ := h.list e
    cases (show T = "list" from ht)
    exact .inl ⟨rfl, vs, h1⟩
  | tuple ds =>
    obtain ⟨a, vs, rfl, h1, _⟩ := h.tup e
    exact ht.elim
  | str z =>
    cases h.str
    exact ht
  | none => exact ht.elim
  | bool b => exact ht.elim
  | int b => exact ht.elim
  | dict b => exact ht.elim
end
end DL
namespace DL
open PySem PySem.Spec PyProof.Rows L2
variable [TabC]
variable {K : PySem.W.Frag} {g : Gm}
inductive RetV where
  | dat (d : D)
  | new (w : Ow)
inductive Out where
  | nx (ρ : Rho)
  | rt (ρ : Rho) (r : RetV)
  | bk (ρ : Rho)
  | ct (ρ : Rho)
  | ex (C : Addr) (ρ : Rho)
def RetOk (c : Cc) (F H : Hp) (v : V) : RetV → Prop
  | .dat d => Dx c.K F v d
  | .new w => ∃ a fp, v = .ref a ∧ OwRep c.K F H a fp w ∧ ∀ b ∈ fp, F b = none ∧ H b ≠ none ∧ c.B b = none
structure Cc.okS (c : Cc) (g : Gm) : Prop where
  ok : c.ok g
  wp : ∀ a, c.W a → ∃ j, (j, a) ∈ c.P
structure Post (g : Gm) (c : Cc) (E : Ends) (F : Hp) (P : Out → Prop) : Prop where
  nx : ∀ ρ F' H' σ, P (.nx ρ) → Sim c F' H' σ ρ → Same F F' → E.nx σ H'
  rt : ∀ ρ F' H' σ v r, P (.rt ρ r) → Sim c F' H' σ ρ → Same F F' → RetOk c F' H' v r → E.rt v H'
  bk : ∀ ρ F' H' σ, P (.bk ρ) → Sim c F' H' σ ρ → Same F F' → E.bk σ H'
  ct : ∀ ρ F' H' σ, P (.ct ρ) → Sim c F' H' σ ρ → Same F F' → E.ct σ H'
  ex : ∀ ρ F' H' σ C, P (.ex C ρ) → Sim c F' H' σ ρ → Same F F' → g.xe (.ref C) none H'
def Sv (g : Gm) (ts : TS) (ρ : Rho) (P : Out → Prop) : Prop := ∀ (c : Cc) (F H : Hp) (σ : L2.St) (E : Ends), c.okS g → Sim c F H σ ρ → Post g c E F P → ts E σ H
theorem Post.up {c : Cc} {E : Ends} {F F' : Hp} {P : Out → Prop} (p : Post g c E F P) (e : Same F F') : Post g c E F' P :=
  ⟨fun ρ G H σ a b d => p.nx ρ G H σ a b (e.trans d), fun ρ G H σ v r a b d x => p.rt ρ G H σ v r a b (e.trans d) x, fun ρ G H σ a b d => p.bk ρ G H σ a b (e.trans d), fun ρ G H σ a b d => p.ct ρ G H σ a b (e.trans d), fun ρ G H σ C a b d => p.ex ρ G H σ C a b (e.trans d)⟩
theorem Sv.mono {ts : TS} {ρ : Rho} {P P' : Out → Prop} (h : Sv g ts ρ P) (i : ∀ o, P o → P' o) : Sv g ts ρ P' := fun c F H σ E k s p =>
  h c F H σ E k s ⟨fun ρ G H σ a => p.nx ρ G H σ (i _ a), fun ρ G H σ v r a => p.rt ρ G H σ v r (i _ a), fun ρ G H σ a => p.bk ρ G H σ (i _ a), fun ρ G H σ a => p.ct ρ G H σ (i _ a), fun ρ G H σ C a => p.ex ρ G H σ C (i _ a)⟩
/-- weaker environments: entries forgotten -/
inductive Wk : Rho → Rho → Prop
  | nil : Wk [] []
  | eq {e : Ent} {r r' : Rho} : Wk r r' → Wk (e :: r) (e :: r')
  | no {e : Ent} {r r' : Rho} : Wk r r' → Wk (e :: r) (.no :: r')
theorem Wk.refl : ∀ ρ : Rho, Wk ρ ρ
  | [] => .nil
  | _ :: r => .eq (Wk.refl r)
theorem Wk.len : ∀ {ρ ρ' : Rho}, Wk ρ ρ' → ρ'.length = ρ.length
  | _, _, .nil => rfl
  | _, _, .eq h => by simp [h.len]
  | _, _, .no h => by simp [h.len]
theorem Wk.at : ∀ {ρ ρ' : Rho}, Wk ρ ρ' → ∀ i : Nat, ρ'[i]? = ρ[i]? ∨ ∀ e : Ent, ρ'[i]? = some e → e = .no
  | _, _, .nil, i => .inl rfl
  | _, _, .eq h, 0 => .inl rfl
  | _, _, .eq h, i + 1 => by simpa using h.at i
  | _, _, .no h, 0 => .inr fun e q => by simpa using q.symm
  | _, _, .no h, i + 1 => by simpa using h.at i
/-- the block's next statement -/
def Sq (g : Gm) (u : TS) (P : Out → Prop) : Out → Prop
  | .nx ρ => Sv g u ρ P
  | o => P o
theorem sv_seq {t u : TS} {ρ : Rho} {P : Out → Prop} (h : Sv g t ρ (Sq g u P)) : Sv g (tSeq t u) ρ P := fun c F H σ E k s p => by
  refine h c F H σ { E with nx := u E } k s ⟨fun ρ' F' H' σ' q s' e => ?_, fun ρ' F' H' σ' v r q s' e x => p.rt _ _ _ _ _ _ q s' e x, fun ρ' F' H' σ' q s' e => p.bk _ _ _ _ q s' e, fun ρ' F' H' σ' q s' e => p.ct _ _ _ _ q s' e, fun ρ' F' H' σ' C q s' e => p.ex _ _ _ _ _ q s' e⟩
  exact q c F' H' σ' E k s' (p.up e)
theorem sv_next {ρ : Rho} {P : Out → Prop} (h : P (.nx ρ)) : Sv g tNext ρ P := fun c F H σ E k s p => p.nx _ _ _ _ h s (Same.refl _)
theorem sv_break {ρ : Rho} {P : Out → Prop} (h : P (.bk ρ)) : Sv g tBreak ρ P := fun c F H σ E k s p => p.bk _ _ _ _ h s (Same.refl _)
theorem sv_cont {ρ : Rho} {P : Out → Prop} (h : P (.ct ρ)) : Sv g tCont ρ P := fun c F H σ E k s p => p.ct _ _ _ _ h s (Same.refl _)
/-- what ahead of a point is own is nobody else's -/
theorem notP {c : Cc} {g : Gm} (k : c.okS g) {i : Nat} (h : i ∉ g.ps) : ∀ a, (i, a) ∉ c.P := fun a m => by
  refine h ?_
  rw [← k.ok.2]
  exact List.mem_map.mpr ⟨(i, a), m, rfl⟩
/-- x = e, data -/
theorem sv_set {te : TE} {ρ ρ1 : Rho} {d : D} {i : Nat} {P : Out → Prop} (he : EvD g te ρ d ρ1) (h : P (.nx (ρ1.set i (.dat d)))) (hi : i < ρ1.length := by simp) (hp : i ∉ g.ps := by simp) : Sv g (tAsg te (gName i)) ρ P := fun c F H σ E k s p =>
  he c F H σ k.ok s _ fun v F' H' s' e x => p.nx _ _ _ _ h (s'.setDat x hi (notP k hp)) e
/-- an own thing at a new place gets a name -/
theorem Sim.setOwn {c : Cc} {F H : Hp} {σ : L2.St} {ρ : Rho} (h : Sim c F H σ ρ) {i : Nat} {a : Addr} {f : List Addr} {w : Ow} (hr : OwRep c.K F H a f w) (hf : ∀ b ∈ f, F b = none ∧ H b ≠ none ∧ c.B b = none)
    (hn : ∀ fp, SimF c F H σ ρ fp → ∀ (j : Nat) (w' : Ow) b, ρ[j]? = some (.own w') → b ∈ f → b ∉ fp j) (hi : i < ρ.length) (hP : ∀ a, (i, a) ∉ c.P) : Sim c F H (σ.set i (some (.ref a))) (ρ.set i (.own w)) := by
  obtain ⟨fp, s⟩ := h
  have no := hn fp s
  have hi' : i < σ.length := by rw [s.len]; exact hi
  have own' : ∀ (j : Nat) (w' : Ow), (ρ.set i (.own w))[j]? = some (.own w') → (j = i ∧ w' = w) ∨ (j ≠ i ∧ ρ[j]? = some (.own w')) := fun j w' q => by
    by_cases z : j = i
    · subst z
      rw [List.getElem?_set_self hi] at q
      cases q
      exact .inl ⟨rfl, rfl⟩
    · rw [List.getElem?_set_ne (Ne.symm z)] at q
      exact .inr ⟨z, q⟩
  refine ⟨fun j => if j = i then f else fp j, s.f0, s.fh, s.keep, s.dom, s.av, fun j b m => ?_, fun j d q => ?_, fun j w' q => ?_, fun j w' b q m => ?_, fun j k w' w'' b q q' m m' => ?_, by simpa using s.len, fun j w' b q m k hk => ?_, s.pb, s.tb, s.tw⟩
  · have z : j ≠ i := fun z => hP b (z ▸ m)
    rw [List.getElem?_set_ne (Ne.symm z)]
    exact s.par j b m
  · by_cases z : j = i
    · subst z
      rw [List.getElem?_set_self hi] at q
      cases q
    · rw [List.getElem?_set_ne (Ne.symm z)] at q ⊢
      exact s.dat j d q
  · rcases own' j w' q with ⟨rfl, rfl⟩ | ⟨z, q'⟩
    · exact ⟨a, List.getElem?_set_self hi', by simpa using hr⟩
    · rw [List.getElem?_set_ne (Ne.symm z)]
      simpa [z] using s.own j w' q'
  · rcases own' j w' q with ⟨rfl, rfl⟩ | ⟨z, q'⟩
    · have m' : b ∈ f := by simpa using m
      exact ⟨(hf b m').1, (hf b m').2.1, .inl (hf b m').2.2⟩
    · exact s.ownF j w' b q' (by simpa [z] using m)
  · rcases own' j w' q with ⟨rfl, rfl⟩ | ⟨z, q1⟩
    · rcases own' k w'' q' with ⟨rfl, rfl⟩ | ⟨z', q2⟩
      · rfl
      · exact absurd (by simpa [z'] using m') (no k w'' b q2 (by simpa using m))
    · rcases own' k w'' q' with ⟨rfl, rfl⟩ | ⟨z', q2⟩
      · exact absurd (by simpa [z] using m) (no j w' b q1 (by simpa using m'))
      · exact s.sep j k w' w'' b q1 q2 (by simpa [z] using m) (by simpa [z'] using m')
  · rcases own' j w' q with ⟨rfl, rfl⟩ | ⟨z, q1⟩
    · exact absurd (hf b (by simpa using m)).2.2 (s.pb k b hk)
    · exact s.wp j w' b q1 (by simpa [z] using m) k hk
/-- x = e, a new list of one's own -/
theorem Sim.newList {c : Cc} {F H : Hp} {σ : L2.St} {ρ : Rho} (s : Sim c F H σ ρ) {p : Addr} {vs : List V} {ds : List D} {i : Nat} (hp : H p = none) (ha : DxAll c.K F vs ds) (hi : i < ρ.length) (hP : ∀ a, (i, a) ∉ c.P) :
    Sim c F (upd H p (.lst vs)) (σ.set i (some (.ref p))) (ρ.set i (.own (.lst ds))) := by
  obtain ⟨fp, sf⟩ := id s
  have np : ∀ a, H a ≠ none → a ≠ p := fun a ha z => ha (z ▸ hp)
  have hB : c.B p = none := by
    cases q : c.B p with
    | none => rfl
    | some u => exact absurd hp (sf.dom p (by simp [q]))
  have s2 : SimF c F (upd H p (.lst vs)) σ ρ fp := by
    refine ⟨sf.f0, sf.fh.trans (sameNew hp), fun a u q w => ?_, fun a q => ?_, sf.av, sf.par, sf.dat, fun i w q => ?_, fun i w b q m => ?_, sf.sep, sf.len, sf.wp, sf.pb, sf.tb, sf.tw⟩
    · have := sf.keep a u q w
      rw [upd_ne (np a (by simp [this]))]
      exact this
    · rw [upd_ne (np a (sf.dom a q))]
      exact sf.dom a q
    · obtain ⟨a, e1, e2⟩ := sf.own i w q
      exact ⟨a, e1, e2.up (Same.refl _) fun b m => upd_ne (np b (sf.ownF i w b q m).2.1)⟩
    · obtain ⟨e1, e2, e3⟩ := sf.ownF i w b q m
      exact ⟨e1, by rw [upd_ne (np b e2)]; exact e2, e3⟩
  -- the same footprints serve: argue by hand
  have hi' : i < σ.length := by rw [sf.len]; exact hi
  have own' : ∀ (j : Nat) (w' : Ow), (ρ.set i (.own (.lst ds)))[j]? = some (.own w') → (j = i ∧ w' = .lst ds) ∨ (j ≠ i ∧ ρ[j]? = some (.own w')) := fun j w' q => by
    by_cases z : j = i
    · subst z
      rw [List.getElem?_set_self hi] at q
      cases q
      exact .inl ⟨rfl, rfl⟩
    · rw [List.getElem?_set_ne (Ne.symm z)] at q
      exact .inr ⟨z, q⟩
  have no : ∀ (j : Nat) (w' : Ow), ρ[j]? = some (.own w') → p ∉ fp j := fun j w' q m => (sf.ownF j w' p q m).2.1 hp
  refine ⟨fun j => if j = i then [p] else fp j, s2.f0, s2.fh, s2.keep, s2.dom, s2.av, fun j b m => ?_, fun j d q => ?_, fun j w' q => ?_, fun j w' b q m => ?_, fun j k w' w'' b q q' m m' => ?_, by simpa using sf.len, fun j w' b q m k hk => ?_, sf.pb, sf.tb, sf.tw⟩
  · have z : j ≠ i := fun z => hP b (z ▸ m)
    rw [List.getElem?_set_ne (Ne.symm z)]
    exact s2.par j b m
  · by_cases z : j = i
    · subst z
      rw [List.getElem?_set_self hi] at q
      cases q
    · rw [List.getElem?_set_ne (Ne.symm z)] at q ⊢
      exact s2.dat j d q
  · rcases own' j w' q with ⟨rfl, rfl⟩ | ⟨z, q'⟩
    · refine ⟨p, List.getElem?_set_self hi', ?_⟩
      rw [if_pos rfl]
      exact ⟨rfl, vs, upd_same, ha⟩
    · rw [List.getElem?_set_ne (Ne.symm z)]
      simpa [z] using s2.own j w' q'
  · rcases own' j w' q with ⟨rfl, rfl⟩ | ⟨z, q'⟩
    · have m' : b = p := by simpa using m
      subst m'
      exact ⟨freeF sf.fh hp, by rw [upd_same]; simp, .inl hB⟩
    · exact s2.ownF j w' b q' (by simpa [z] using m)
  · rcases own' j w' q with ⟨rfl, rfl⟩ | ⟨z, q1⟩
    · rcases own' k w'' q' with ⟨rfl, rfl⟩ | ⟨z', q2⟩
      · rfl
      · have e : b = p := by simpa using m
        subst e
        exact absurd (by simpa [z'] using m') (no k w'' q2)
    · rcases own' k w'' q' with ⟨rfl, rfl⟩ | ⟨z', q2⟩
      · have e : b = p := by simpa using m'
        subst e
        exact absurd (by simpa [z] using m) (no j w' q1)
      · exact s2.sep j k w' w'' b q1 q2 (by simpa [z] using m) (by simpa [z'] using m')
  · rcases own' j w' q with ⟨rfl, rfl⟩ | ⟨z, q1⟩
    · have e : b = p := by simpa using m
      subst e
      exact absurd hB (sf.pb k b hk)
    · exact sf.wp j w' b q1 (by simpa [z] using m) k hk
theorem sv_setN {te : TE} {ρ ρ1 : Rho} {ds : List D} {i : Nat} {P : Out → Prop} (he : EvN g te ρ ds ρ1) (h : P (.nx (ρ1.set i (.own (.lst ds))))) (hi : i < ρ1.length := by simp) (hp : i ∉ g.ps := by simp) : Sv g (tAsg te (gName i)) ρ P := fun c F H σ E k s p =>
  he c F H σ k.ok s _ fun q vs F' H' s' e hq x => p.nx _ _ _ _ h (s'.newList hq x hi (notP k hp)) e
/-- if -/
theorem sv_if {tc : TT} {t u : TS} {ρ ρ1 : Rho} {b : Bool} {P : Out → Prop} (hc : EvT g tc ρ b ρ1) (h1 : b = true → Sv g t ρ1 P) (h2 : b = false → Sv g u ρ1 P) : Sv g (tIfS tc t u) ρ P := fun c F H σ E k s p =>
  hc c F H σ k.ok s _ fun F' H' s' e => by
    cases b with
    | true => exact h1 rfl c F' H' σ E k s' (p.up e)
    | false => exact h2 rfl c F' H' σ E k s' (p.up e)
/-- return data -/
theorem sv_ret {te : TE} {ρ ρ1 : Rho} {d : D} {P : Out → Prop} (he : EvD g te ρ d ρ1) (h : P (.rt ρ1 (.dat d))) : Sv g (tRet te) ρ P := fun c F H σ E k s p =>
  he c F H σ k.ok s _ fun v F' H' s' e x => p.rt _ _ _ _ _ _ h s' e x
theorem sv_retNone {ρ : Rho} {P : Out → Prop} (h : P (.rt ρ (.dat .none))) : Sv g tRetN ρ P := fun c F H σ E k s p => p.rt _ _ _ _ _ _ h s (Same.refl _) .non
/-- return a new list -/
theorem sv_retN {te : TE} {ρ ρ1 : Rho} {ds : List D} {P : Out → Prop} (he : EvN g te ρ ds ρ1) (h : P (.rt ρ1 (.new (.lst ds)))) : Sv g (tRet te) ρ P := fun c F H σ E k s p =>
  he c F H σ k.ok s _ fun q vs F' H' s' e hq x => p.rt _ _ _ _ _ _ h (s'.heap hq) e ⟨q, [q], rfl, ⟨rfl, vs, upd_same, x⟩, fun b m => by
    have z : b = q := by simpa using m
    subst z
    refine ⟨freeF s'.fh hq, by rw [upd_same]; simp, ?_⟩
    obtain ⟨fp, sf⟩ := s'
    cases q : c.B b with
    | none => rfl
    | some u => exact absurd hq (sf.dom b (by simp [q]))⟩
/-- return a name that holds a thing of one's own -/
theorem sv_retOwn {ρ : Rho} {w : Ow} {i : Nat} {P : Out → Prop} (he : ρ[i]? = some (.own w)) (h : P (.rt (ρ.set i .no) (.new w))) (hj : i ∉ g.ps := by simp) : Sv g (tRet (tVar i)) ρ P := fun c F H σ E k s p => by
  obtain ⟨fp, sf⟩ := id s
  obtain ⟨a, e1, e2⟩ := sf.own i w he
  refine ⟨.ref a, e1, p.rt _ F H σ _ _ h (s.weak (by simp) fun j => ?_) (Same.refl _) ⟨a, fp i, rfl, e2, fun b m => ?_⟩⟩
  · by_cases z : j = i
    · subst z
      refine .inr fun e q => ?_
      by_cases hl : j < ρ.length
      · rw [List.getElem?_set_self hl] at q
        exact (Option.some.inj q).symm
      · rw [List.getElem?_eq_none (by simpa using hl)] at q
        cases q
    · rw [List.getElem?_set_ne (Ne.symm z)]
      exact .inl rfl
  · obtain ⟨q1, q2, q3⟩ := sf.ownF i w b he m
    refine ⟨q1, q2, q3.resolve_right fun z => ?_⟩
    obtain ⟨j, hj'⟩ := k.wp b z
    have := sf.wp i w b he m j hj'
    subst this
    exact notP k hj b hj'
/-- an expression for what it does -/
theorem sv_drop {te : TE} {ρ ρ1 : Rho} {d : D} {P : Out → Prop} (he : EvD g te ρ d ρ1) (h : P (.nx ρ1)) : Sv g (tDrop te) ρ P := fun c F H σ E k s p =>
  he c F H σ k.ok s _ fun v F' H' s' e x => p.nx _ _ _ _ h s' e
end DL
namespace DL
open PySem PySem.Spec PyProof.Rows L2
variable [TabC]
variable {K : PySem.W.Frag} {g : Gm}
section
variable {ta tb te : TE} {t u : TT} {ρ ρ1 ρ2 : Rho} {a b : Bool} {d : D}
theorem et_test (h : EvD g te ρ (.bool b) ρ1) : EvT g (tTest te) ρ b ρ1 := fun c F H σ k s Q q => h c F H σ k s _ fun v F' H' s' e x => by
  cases x
  exact ⟨b, rfl, q F' H' s' e⟩
theorem et_B (h : EvD g te ρ (.bool b) ρ1) : EvT g (tB te) ρ b ρ1 := fun c F H σ k s Q q => h c F H σ k s _ fun v F' H' s' e x => by
  cases x
  exact ⟨b, rfl, q F' H' s' e⟩
theorem et_not (h1 : EvT g t ρ a ρ1) : EvT g (tNot t) ρ (!a) ρ1 := fun c F H σ k s Q q => h1 c F H σ k s _ fun F1 H1 s1 e1 => q F1 H1 s1 e1
theorem ed_and (h1 : EvD g ta ρ (.bool a) ρ1) (h2 : a = true → EvD g tb ρ1 (.bool b) ρ1) : EvD g (tAndV ta tb) ρ (.bool (a && b)) ρ1 := fun c F H σ k s Q q => h1 c F H σ k s _ fun v F1 H1 s1 e1 x => by
  cases x
  refine ⟨a, rfl, ?_⟩
  cases a with
  | true => exact h2 rfl c F1 H1 σ k s1 Q fun v F2 H2 s2 e2 y => q v F2 H2 s2 (e1.trans e2) y
  | false => exact q _ F1 H1 s1 e1 (.bl _)
theorem ed_or (h1 : EvD g ta ρ (.bool a) ρ1) (h2 : a = false → EvD g tb ρ1 (.bool b) ρ1) : EvD g (tOrV ta tb) ρ (.bool (a || b)) ρ1 := fun c F H σ k s Q q => h1 c F H σ k s _ fun v F1 H1 s1 e1 x => by
  cases x
  refine ⟨a, rfl, ?_⟩
  cases a with
  | true => exact q _ F1 H1 s1 e1 (.bl _)
  | false => exact h2 rfl c F1 H1 σ k s1 Q fun v F2 H2 s2 e2 y => q v F2 H2 s2 (e1.trans e2) y
theorem ed_not (h1 : EvD g ta ρ (.bool a) ρ1) : EvD g (tNotV ta) ρ (.bool (!a)) ρ1 := fun c F H σ k s Q q => h1 c F H σ k s _ fun v F1 H1 s1 e1 x => by
  cases x
  exact ⟨a, rfl, q _ F1 H1 s1 e1 (.bl _)⟩
/-- is None, is not None -/
def notNone : D → Bool
  | .none => false
  | _ => true
theorem dp_non {F : Hp} {v : V} (h : Dx K F v d) : decide (v = .non) = !notNone d := by
  cases h <;> rfl
theorem ed_isN (h : EvD g ta ρ d ρ1) : EvD g (tIsN ta) ρ (.bool (!notNone d)) ρ1 := fun c F H σ k s Q q => h c F H σ k s _ fun v F1 H1 s1 e1 x => by
  rw [dp_non x]
  exact q _ F1 H1 s1 e1 (.bl _)
theorem ed_notN (h : EvD g ta ρ d ρ1) : EvD g (tNotN ta) ρ (.bool (notNone d)) ρ1 := fun c F H σ k s Q q => h c F H σ k s _ fun v F1 H1 s1 e1 x => by
  rw [dp_non x, Bool.not_not]
  exact q _ F1 H1 s1 e1 (.bl _)
end
section
variable {i j : Int} {d e z : D} {r r' : R2} {xs ys ds : List D}
theorem r2_or1 (h : R2D K r d e z) : R2D K (fun x y H Q => r x y H Q ∨ r' x y H Q) d e z := fun F H x y Q f a b q => .inl (h F H x y Q f a b q)
theorem r2_or2 (h : R2D K r' d e z) : R2D K (fun x y H Q => r x y H Q ∨ r' x y H Q) d e z := fun F H x y Q f a b q => .inr (h F H x y Q f a b q)
theorem r2_int {f : Int → Int → Int} : R2D K (rI0 fun i j => .int (f i j)) (.int i) (.int j) (.int (f i j)) := fun F H x y Q _ a b q => ⟨i, j, a.int, b.int, q _ F H (.at (.int _))⟩
theorem r2_intC {C : Int → Int → Prop} {f : Int → Int → Int} (hc : C i j) : R2D K (rI C fun i j => .int (f i j)) (.int i) (.int j) (.int (f i j)) := fun F H x y Q _ a b q => ⟨i, j, a.int, b.int, hc, q _ F H (.at (.int _))⟩
theorem r2_bl {f : Int → Int → Bool} : R2D K (rI0 fun i j => .bl (f i j)) (.int i) (.int j) (.bool (f i j)) := fun F H x y Q _ a b q => ⟨i, j, a.int, b.int, q _ F H (.at (.bl _))⟩
theorem r2_eqD (h1 : SeqAt.shaped d = true) (h2 : SeqAt.shaped e = true) : R2D K (rEqD K) d e (.bool (PyData.eqv d e)) := fun F H x y Q f a b q => ⟨d, e, (a.dp f).old (noDct h1), (b.dp f).old (noDct h2), h1, h2, q _ F H (.at (.bl _))⟩
theorem r2_neD (h1 : SeqAt.shaped d = true) (h2 : SeqAt.shaped e = true) : R2D K (rNeD K) d e (.bool (!PyData.eqv d e)) := fun F H x y Q f a b q => ⟨d, e, (a.dp f).old (noDct h1), (b.dp f).old (noDct h2), h1, h2, q _ F H (.at (.bl _))⟩
theorem r2_inD (h1 : SeqAt.shaped d = true) (h2 : SeqAt.shaped (.list ds) = true) : R2D K (rInD K) d (.list ds) (.bool (ds.any fun z => PyData.eqv z d)) := fun F H x y Q f a b q => ⟨d, ds, (a.dp f).old (noDct h1), (b.dp f).old (noDct h2), h1, h2, q _ F H (.at (.bl _))⟩
theorem r2_notInD (h1 : SeqAt.shaped d = true) (h2 : SeqAt.shaped (.list ds) = true) : R2D K (rNotInD K) d (.list ds) (.bool (!ds.any fun z => PyData.eqv z d)) := fun F H x y Q f a b q => ⟨d, ds, (a.dp f).old (noDct h1), (b.dp f).old (noDct h2), h1, h2, q _ F H (.at (.bl _))⟩
theorem r2_catT (hz : xs.length + ys.length ≤ sizeLine) : R2D K (rCatX K) (.tuple xs) (.tuple ys) (.tuple (xs ++ ys)) := fun F H x y Q f a b q => by
  obtain ⟨p1, v1, rfl, h1, k1⟩ := a.tup f
  obtain ⟨p2, v2, rfl, h2, k2⟩ := b.tup f
  have l1 := dpAllLen k1
  have l2 := dpAllLen k2
  refine ⟨p1, p2, v1, v2, rfl, rfl, h1, h2, by omega, fun e1 => ?_, fun _ e2 => ?_, fun _ _ p o hp ho => q _ _ _ (.new hp ho (dpAllApp k1 k2))⟩
  · subst e1
    cases k1
    exact q _ F H (.at (b.elim id fun ⟨_, _, _, _, z, _⟩ => by cases z))
  · subst e2
    cases k2
    rw [List.append_nil] at q
    exact q _ F H (.at (a.elim id fun ⟨_, _, _, _, z, _⟩ => by cases z))
theorem atI_dp {F : Hp} {vs : List V} (h : DxAll K F vs ds) (hd : atI ds i = some d) : ∃ v, atI vs i = some v ∧ Dx K F v d := by
  unfold atI at hd ⊢
  rw [dpAllLen h]
  cases q : ixN ds.length i with
  | none => rw [q] at hd; cases hd
  | some j =>
    rw [q] at hd
    exact dpAllGet h hd
theorem r2_ixL (hd : atI ds i = some d) : R2D K (rIxL K) (.list ds) (.int i) d := fun F H x y Q f a b q => by
  obtain ⟨p, vs, rfl, h1, k1⟩ := a.list f
  obtain ⟨v, e1, e2⟩ := atI_dp k1 hd
  exact ⟨p, vs, i, v, rfl, b.int, h1, e1, q _ F H (.at e2)⟩
theorem r2_ixT (hd : atI ds i = some d) : R2D K (rIxT K) (.tuple ds) (.int i) d := fun F H x y Q f a b q => by
  obtain ⟨p, vs, rfl, h1, k1⟩ := a.tup f
  obtain ⟨v, e1, e2⟩ := atI_dp k1 hd
  exact ⟨p, vs, i, v, rfl, b.int, h1, e1, q _ F H (.at e2)⟩
theorem r2_ixS {z : Str} {cp : Nat} (hl : z.length ≤ sizeLine) (hd : atI z.cps.toList i = some cp) : R2D K rIxS (.str z) (.int i) (.str ⟨#[cp]⟩) := fun F H x y Q f a b q => ⟨z, i, cp, a.str, b.int, hl, hd, q _ F H (.at (.str _))⟩
theorem rx_L (hd : atI ds i = some d) : R2D K (rIx K) (.list ds) (.int i) d := r2_or1 (r2_ixL hd)
theorem rx_T (hd : atI ds i = some d) : R2D K (rIx K) (.tuple ds) (.int i) d := r2_or2 (r2_or1 (r2_ixT hd))
theorem rx_S {z : Str} {cp : Nat} (hl : z.length ≤ sizeLine) (hd : atI z.cps.toList i = some cp) : R2D K (rIx K) (.str z) (.int i) (.str ⟨#[cp]⟩) := r2_or2 (r2_or2 (r2_ixS hl hd))
theorem ru_neg : R1D K (rU fun i => .int (-i)) (.int i) (.int (-i)) := fun F H x Q f a q => ⟨i, a.int, q _ F H (.at (.int _))⟩
theorem OpdAll.one {F H : Hp} {vs : List V} (h : OpdAll K F H vs [d]) : ∃ v, vs = [v] ∧ Opd K F H v d := by
  cases h with
  | cons a t => cases t; exact ⟨_, rfl, a⟩
theorem OpdAll.two {F H : Hp} {vs : List V} (h : OpdAll K F H vs [d, e]) : ∃ v w, vs = [v, w] ∧ Opd K F H v d ∧ Opd K F H w e := by
  cases h with
  | cons a t =>
    cases t with
    | cons b t => cases t; exact ⟨_, _, rfl, a, b⟩
def rLen (K : PySem.W.Frag) : List V → Hp → VK → Prop := fun xs H Q => ∃ p ys, xs = [.ref p] ∧ (SqL K H p ys ∨ SqT K H p ys) ∧ Q (.int ys.length) H
theorem cr_len {X : Cx} : CallR X (.builtin "len") (rLen X.K) := call_len_seq
theorem rc_lenL : RCD K (rLen K) [.list ds] (.int ds.length) := fun F H xs Q f a q => by
  obtain ⟨v, rfl, a1⟩ := a.one
  clear a
  have a := a1
  obtain ⟨p, vs, rfl, h1, k1⟩ := a.list f
  exact ⟨p, vs, rfl, .inl h1, by rw [dpAllLen k1]; exact q _ F H (.at (.int _))⟩
theorem rc_lenT : RCD K (rLen K) [.tuple ds] (.int ds.length) := fun F H xs Q f a q => by
  obtain ⟨v, rfl, a1⟩ := a.one
  clear a
  have a := a1
  obtain ⟨p, vs, rfl, h1, k1⟩ := a.tup f
  exact ⟨p, vs, rfl, .inr h1, by rw [dpAllLen k1]; exact q _ F H (.at (.int _))⟩
def rAbs : List V → Hp → VK → Prop := fun xs H Q => ∃ i, xs = [.int i] ∧ Q (.int (if i < 0 then -i else i)) H
theorem cr_abs {X : Cx} : CallR X (.builtin "abs") rAbs := call_abs
theorem rc_abs : RCD K rAbs [.int i] (.int (if i < 0 then -i else i)) := fun F H xs Q f a q => by
  obtain ⟨v, rfl, a1⟩ := a.one
  clear a
  have a := a1
  exact ⟨i, by rw [a.int], q _ F H (.at (.int _))⟩
def rInt1 : List V → Hp → VK → Prop := fun xs H Q => (∃ i, xs = [.int i] ∧ Q (.int i) H) ∨ ∃ k, xs = [.bl k] ∧ Q (.int (if k then 1 else 0)) H
theorem cr_int {X : Cx} : CallR X (.type "int") rInt1 := call_int1
theorem rc_int : RCD K rInt1 [.int i] (.int i) := fun F H xs Q f a q => by
  obtain ⟨v, rfl, a1⟩ := a.one
  clear a
  have a := a1
  exact .inl ⟨i, by rw [a.int], q _ F H (.at (.int _))⟩
theorem rc_intB {b : Bool} : RCD K rInt1 [.bool b] (.int (if b then 1 else 0)) := fun F H xs Q f a q => by
  obtain ⟨v, rfl, a1⟩ := a.one
  clear a
  have a := a1
  exact .inr ⟨b, by rw [a.bl], q _ F H (.at (.int _))⟩
abbrev rTuple := rTupleX
theorem cr_tuple {X : Cx} : CallR X (.type "tuple") (rTuple X.K) := cr_tupleX
theorem rc_tupL : RCD K (rTuple K) [.list ds] (.tuple ds) := fun F H xs Q f a q => by
  obtain ⟨v, rfl, a1⟩ := a.one
  clear a
  have a := a1
  obtain ⟨p, vs, rfl, h1, k1⟩ := a.list f
  exact ⟨p, vs, rfl, .inl ⟨h1, fun l o hl ho => q _ _ _ (.new hl ho k1)⟩⟩
def rList (K : PySem.W.Frag) : List V → Hp → VK → Prop := fun xs H Q => ∃ p ys, xs = [.ref p] ∧ (SqL K H p ys ∨ SqT K H p ys) ∧ ∀ l, H l = none → Q (.ref l) (upd H l (.lst ys))
theorem rc_listL : RCN K (rList K) [.list ds] ds := fun F H xs Q f a q => by
  obtain ⟨v, rfl, a1⟩ := a.one
  clear a
  have a := a1
  obtain ⟨p, vs, rfl, h1, k1⟩ := a.list f
  exact ⟨p, vs, rfl, .inl h1, fun l hl => q l vs hl k1⟩
theorem rc_listT : RCN K (rList K) [.tuple ds] ds := fun F H xs Q f a q => by
  obtain ⟨v, rfl, a1⟩ := a.one
  clear a
  have a := a1
  obtain ⟨p, vs, rfl, h1, k1⟩ := a.tup f
  exact ⟨p, vs, rfl, .inr h1, fun l hl => q l vs hl k1⟩
theorem dp_bools {F : Hp} : ∀ {vs : List V} {bs : List Bool}, DxAll K F vs (bs.map .bool) → vs = bs.map .bl
  | _, [], .nil => rfl
  | _, b :: bs, .cons h t => by
    cases h
    rw [dp_bools t]
    rfl
theorem dp_ints {F : Hp} : ∀ {vs : List V} {ns : List Int}, DxAll K F vs (ns.map .int) → vs = ns.map .int
  | _, [], .nil => rfl
  | _, b :: bs, .cons h t => by
    cases h
    rw [dp_ints t]
    rfl
theorem dp_strs {F : Hp} : ∀ {vs : List V} {ns : List Str}, DxAll K F vs (ns.map .str) → vs = ns.map .str
  | _, [], .nil => rfl
  | _, b :: bs, .cons h t => by
    cases h
    rw [dp_strs t]
    rfl
theorem dpInts {F : Hp} : ∀ ns : List Int, DxAll K F (ns.map .int) (ns.map .int)
  | [] => .nil
  | n :: ns => .cons (.int n) (dpInts ns)
theorem rc_all {bs : List Bool} : RCD K (rAll K) [.list (bs.map .bool)] (.bool (bs.all id)) := fun F H xs Q f a q => by
  obtain ⟨v, rfl, a1⟩ := a.one
  clear a
  have a := a1
  obtain ⟨p, vs, rfl, h1, k1⟩ := a.list f
  rw [dp_bools k1] at h1
  exact ⟨p, bs, rfl, h1, q _ F H (.at (.bl _))⟩
theorem rc_any {bs : List Bool} : RCD K (rAny K) [.list (bs.map .bool)] (.bool (bs.any id)) := fun F H xs Q f a q => by
  obtain ⟨v, rfl, a1⟩ := a.one
  clear a
  have a := a1
  obtain ⟨p, vs, rfl, h1, k1⟩ := a.list f
  rw [dp_bools k1] at h1
  exact ⟨p, bs, rfl, h1, q _ F H (.at (.bl _))⟩
end
section
variable {ta : TA} {ρ ρ1 : Rho}
/-- the arguments are frozen data -/
def datas : List Arg → Option (List D)
  | [] => some []
  | .d x :: As => match datas As with
    | some ds => some (x :: ds)
    | none => none
  | .o _ :: _ => none
theorem ArgsAt.datas {F : Hp} {σ : L2.St} : ∀ {vs : List V} {As : List Arg} {ds : List D}, ArgsAt K F σ vs As → DL.datas As = some ds → DxAll K F vs ds
  | _, _, _, .nil, e => by cases e; exact .nil
  | _, .d x :: As, _, .cons (.d a) t, e => by
    unfold DL.datas at e
    split at e
    · rename_i ds e2
      cases e
      exact .cons a (ArgsAt.datas t e2)
    · cases e
  | _, .o _ :: _, _, .cons (.o a) t, e => by cases e
theorem ed_tup {As : List Arg} {ds : List D} (h : EvA g ta ρ As ρ1) (hd : datas As = some ds := by rfl) (hz : ds.length ≤ sizeLine := by decide) : EvD g (tTupX ta) ρ (.tuple ds) ρ1 := fun c F H σ k s Q q =>
  h c F H σ k s _ fun vs F1 H1 s1 e1 h1 => by
    have a := h1.datas hd
    refine ⟨by rw [dpAllLen a]; exact hz, fun p o hp ho => ?_⟩
    have e2 : Same F1 (upd F1 p (.frz o (.tup vs))) := sameNew (freeF s1.fh hp)
    exact q _ _ _ (s1.grow hp) (e1.trans e2) (.tup (.inl ⟨o, upd_same, ho⟩) (dpAllUp e2 a))
theorem en_lst {As : List Arg} {ds : List D} (h : EvA g ta ρ As ρ1) (hd : datas As = some ds := by rfl) (hz : ds.length ≤ sizeLine := by decide) : EvN g (tLst ta) ρ ds ρ1 := fun c F H σ k s Q q =>
  h c F H σ k s _ fun vs F1 H1 s1 e1 h1 => by
    have a := h1.datas hd
    exact ⟨by rw [dpAllLen a]; exact hz, fun p hp => q p vs F1 H1 s1 e1 hp a⟩
end
def EvP (g : Gm) (to : TO) (ρ : Rho) (o : Option Int) (ρ' : Rho) : Prop := ∀ (c : Cc) (F H : Hp) (σ : L2.St), c.ok g → Sim c F H σ ρ → ∀ Q : Option Int → Hp → Prop, (∀ F' H', Sim c F' H' σ ρ' → Same F F' → Q o H') → to σ H Q
theorem ep_no {ρ : Rho} : EvP g tNoPart ρ none ρ := fun c F H σ k s Q q => q F H s (Same.refl _)
theorem ep_some {te : TE} {ρ ρ1 : Rho} {i : Int} (h : EvD g te ρ (.int i) ρ1) : EvP g (tPart te) ρ (some i) ρ1 := fun c F H σ k s Q q => h c F H σ k s _ fun v F1 H1 s1 e1 x => by
  cases x
  exact ⟨i, rfl, q F1 H1 s1 e1⟩
def RSD (K : PySem.W.Frag) (r : V → Option Int → Option Int → Hp → VK → Prop) (d : D) (lo hi : Option Int) (z : D) : Prop := ∀ F H x (Q : VK), Same F H → Opd K F H x d → (∀ v F' H', Res K F H v z F' H' → Q v H') → r x lo hi H Q
def RSN (K : PySem.W.Frag) (r : V → Option Int → Option Int → Hp → VK → Prop) (d : D) (lo hi : Option Int) (zs : List D) : Prop := ∀ F H x (Q : VK), Same F H → Opd K F H x d → (∀ p vs, H p = none → DxAll K F vs zs → Q (.ref p) (upd H p (.lst vs))) → r x lo hi H Q
section
variable {te : TE} {tl th : TO} {ρ ρ1 ρ2 ρ3 : Rho} {lo hi : Option Int} {d z : D} {A : Arg} {r : V → Option Int → Option Int → Hp → VK → Prop}
theorem ed_sl (ha : EvO g te ρ A ρ1) (hl : EvP g tl ρ1 lo ρ2) (hh : EvP g th ρ2 hi ρ3) (hr : RSD g.K r d lo hi z) (dA : A.den ρ3 = some d := by rfl) : EvD g (tSl r te tl th) ρ z ρ3 := fun c F H σ k s Q q =>
  ha c F H σ k s _ fun x F1 H1 s1 e1 h1 => hl c F1 H1 σ k s1 _ fun F2 H2 s2 e2 => hh c F2 H2 σ k s2 _ fun F3 H3 s3 e3 => by
    have kk : c.K = g.K := k.1
    have o := Arg.opd s3 (h1.up (e2.trans e3)) dA
    rw [kk] at o
    refine hr F3 H3 x Q s3.fh o fun v F4 H4 rs => ?_
    rw [← kk] at rs
    obtain ⟨s4, e4, q4⟩ := rs.sim s3
    exact q v F4 H4 s4 (((e1.trans e2).trans e3).trans e4) q4
theorem en_sl {zs : List D} (ha : EvO g te ρ A ρ1) (hl : EvP g tl ρ1 lo ρ2) (hh : EvP g th ρ2 hi ρ3) (hr : RSN g.K r d lo hi zs) (dA : A.den ρ3 = some d := by rfl) : EvN g (tSl r te tl th) ρ zs ρ3 := fun c F H σ k s Q q =>
  ha c F H σ k s _ fun x F1 H1 s1 e1 h1 => hl c F1 H1 σ k s1 _ fun F2 H2 s2 e2 => hh c F2 H2 σ k s2 _ fun F3 H3 s3 e3 => by
    have kk : c.K = g.K := k.1
    have o := Arg.opd s3 (h1.up (e2.trans e3)) dA
    rw [kk] at o
    exact hr F3 H3 x Q s3.fh o fun p vs hp a => q p vs F3 H3 s3 ((e1.trans e2).trans e3) hp (by rw [kk]; exact a)
end
def cutD (xs : List D) (lo hi : Option Int) : List D := (xs.drop (HT.sIx xs.length 0 lo)).take (HT.sIx xs.length xs.length hi - HT.sIx xs.length 0 lo)
theorem dp_cut {F : Hp} {vs : List V} {ds : List D} (h : DxAll K F vs ds) (lo hi : Option Int) : DxAll K F (cutV vs lo hi) (cutD ds lo hi) := by
  unfold cutV cutD
  rw [dpAllLen h]
  exact dpAllTake _ (dpAllDrop _ h)
theorem rs_tup {ds : List D} {lo hi : Option Int} : RSD K (rSlX K) (.tuple ds) lo hi (.tuple (cutD ds lo hi)) := fun F H x Q f a q => by
  obtain ⟨p, vs, rfl, h1, k1⟩ := a.tup f
  have hl := dpAllLen k1
  refine ⟨p, vs, rfl, h1, fun ⟨e1, e2⟩ => ?_, fun _ l o hl ho => q _ _ _ (.new hl ho (dp_cut k1 lo hi))⟩
  rw [hl] at e1 e2
  have e : cutD ds lo hi = ds := by
    unfold cutD
    rw [e1, e2]
    simp
  rw [e] at q
  exact q _ F H (.at (a.elim id fun ⟨_, _, _, _, z, _⟩ => by cases z))
theorem rs_list {ds : List D} {lo hi : Option Int} : RSN K (rSlL K) (.list ds) lo hi (cutD ds lo hi) := fun F H x Q f a q => by
  obtain ⟨p, vs, rfl, h1, k1⟩ := a.list f
  exact ⟨p, vs, rfl, h1, fun l hl => q l _ hl (dp_cut k1 lo hi)⟩
end DL
namespace DL
open PySem PySem.Spec PyProof.Rows L2
variable [TabC]
variable {K : PySem.W.Frag} {g : Gm}
/-- the object of an own list is another list now -/
theorem Sim.setLst {c : Cc} {F H : Hp} {σ : L2.St} {ρ : Rho} (s : Sim c F H σ ρ) {i : Nat} {ds ds' : List D} {a : Addr} {vs' : List V} (he : ρ[i]? = some (.own (.lst ds))) (hσ : σ[i]? = some (some (.ref a))) (ha : DxAll c.K F vs' ds') :
    Sim c F (upd H a (.lst vs')) σ (ρ.set i (.own (.lst ds'))) := by
  obtain ⟨fp, s⟩ := s
  obtain ⟨a', e1, e2, vs, e3, e4⟩ := s.own i _ he
  have ea : a' = a := by
    rw [hσ] at e1
    cases e1
    rfl
  subst ea
  have m0 : a' ∈ fp i := by rw [e2]; simp
  have hi : i < ρ.length := (List.getElem?_eq_some_iff.mp he).1
  obtain ⟨q1, q2, q3⟩ := s.ownF i _ a' he m0
  have own' : ∀ (j : Nat) (w' : Ow), (ρ.set i (.own (.lst ds')))[j]? = some (.own w') → (j = i ∧ w' = .lst ds') ∨ (j ≠ i ∧ ρ[j]? = some (.own w')) := fun j w' q => by
    by_cases z : j = i
    · subst z
      rw [List.getElem?_set_self hi] at q
      cases q
      exact .inl ⟨rfl, rfl⟩
    · rw [List.getElem?_set_ne (Ne.symm z)] at q
      exact .inr ⟨z, q⟩
  have old : ∀ (j : Nat) (w' : Ow), (ρ.set i (.own (.lst ds')))[j]? = some (.own w') → ∃ w0, ρ[j]? = some (.own w0) := fun j w' q => by
    rcases own' j w' q with ⟨rfl, _⟩ | ⟨_, q⟩
    · exact ⟨_, he⟩
    · exact ⟨_, q⟩
  refine ⟨fp, s.f0, sameUpd s.fh q1, fun b u q w => ?_, fun b q => ?_, s.av, s.par, fun j d q => ?_, fun j w q => ?_, fun j w b q m => ?_, fun j k w w' b q q' m m' => ?_, by simpa using s.len, fun j w b q m k hk => ?_, s.pb, s.tb, s.tw⟩
  · have z : b ≠ a' := fun z => by
      subst z
      rcases q3 with q3 | q3
      · rw [q3] at q; cases q
      · exact w q3
    rw [upd_ne z]
    exact s.keep b u q w
  · by_cases z : b = a'
    · rw [z, upd_same]; simp
    · rw [upd_ne z]; exact s.dom b q
  · by_cases z : j = i
    · subst z
      rw [List.getElem?_set_self hi] at q
      cases q
    · rw [List.getElem?_set_ne (Ne.symm z)] at q
      exact s.dat j d q
  · rcases own' j w q with ⟨rfl, rfl⟩ | ⟨z, q⟩
    · exact ⟨a', e1, e2, vs', upd_same, ha⟩
    · obtain ⟨b, k1, k2⟩ := s.own j w q
      refine ⟨b, k1, k2.up (Same.refl _) fun x m => upd_ne fun e => ?_⟩
      subst e
      exact z (s.sep j i w _ x q he m m0)
  · obtain ⟨w0, q0⟩ := old j w q
    obtain ⟨k1, k2, k3⟩ := s.ownF j w0 b q0 m
    refine ⟨k1, ?_, k3⟩
    by_cases z : b = a'
    · rw [z, upd_same]; simp
    · rw [upd_ne z]; exact k2
  · obtain ⟨w0, q0⟩ := old j w q
    obtain ⟨w1, q1⟩ := old k w' q'
    exact s.sep j k w0 w1 b q0 q1 m m'
  · obtain ⟨w0, q0⟩ := old j w q
    exact s.wp j w0 b q0 m k hk
theorem Sim.lstAt {c : Cc} {F H : Hp} {σ : L2.St} {ρ : Rho} (s : Sim c F H σ ρ) {i : Nat} {ds : List D} (he : ρ[i]? = some (.own (.lst ds))) : ∃ a vs, σ[i]? = some (some (.ref a)) ∧ H a = some (.lst vs) ∧ F a = none ∧ DxAll c.K F vs ds := by
  obtain ⟨fp, s⟩ := s
  obtain ⟨a, e1, e2, vs, e3, e4⟩ := s.own i _ he
  exact ⟨a, vs, e1, e3, (s.ownF i _ a he (by rw [e2]; simp)).1, e4⟩
theorem some_inj2 {σ : L2.St} {i : Nat} {a b : Addr} (h1 : σ[i]? = some (some (.ref a))) (h2 : σ[i]? = some (some (.ref b))) : a = b := by
  rw [h1] at h2
  cases h2
  rfl
section
variable {te ti : TE} {ρ ρ1 ρ2 : Rho} {d : D} {ds ds0 : List D} {i : Nat} {P : Out → Prop}
/-- x.append(e) -/
theorem sv_append (h0 : ρ[i]? = some (.own (.lst ds0))) (he : EvD g te ρ d ρ1) (h1 : ρ1[i]? = some (.own (.lst ds))) (hz : ds.length < sizeLine) (h : P (.nx (ρ1.set i (.own (.lst (ds ++ [d])))))) :
    Sv g (tDrop (tBM g.K "list" rAppend (tVar i) (tCons te tNil))) ρ P := fun c F H σ E k s p => by
  obtain ⟨a, vs, e1, e2, e3, e4⟩ := s.lstAt h0
  refine ⟨.ref a, e1, .inl ⟨rfl, vs, .inl (.inl e2)⟩, he c F H σ k.ok s _ fun v F1 H1 s1 q1 x => ?_⟩
  obtain ⟨b, ws, f1, f2, f3, f4⟩ := s1.lstAt h1
  have := some_inj2 e1 f1
  subst this
  refine ⟨a, ws, v, rfl, rfl, f2, by rw [dpAllLen f4]; exact hz, ?_⟩
  exact p.nx _ _ _ _ h (s1.setLst h1 f1 (dpAllApp f4 (.cons x .nil))) q1
/-- x[e] = e' -/
theorem sv_setItem {j : Nat} {n : Int} (he : EvD g te ρ d ρ1) (hi : EvD g ti ρ1 (.int n) ρ2) (h0 : ρ1[i]? = some (.own (.lst ds0))) (h1 : ρ2[i]? = some (.own (.lst ds))) (hj : ixN ds.length n = some j) (h : P (.nx (ρ2.set i (.own (.lst (ds.set j d)))))) :
    Sv g (tAsg te (gSub (tVar i) ti rSetL)) ρ P := fun c F H σ E k s p => by
  refine he c F H σ k.ok s _ fun v F1 H1 s1 q1 x => ?_
  obtain ⟨a, vs, e1, e2, e3, e4⟩ := s1.lstAt h0
  refine ⟨.ref a, e1, hi c F1 H1 σ k.ok s1 _ fun w F2 H2 s2 q2 y => ?_⟩
  cases y
  obtain ⟨b, ws, f1, f2, f3, f4⟩ := s2.lstAt h1
  have := some_inj2 e1 f1
  subst this
  refine ⟨a, ws, n, j, rfl, rfl, f2, by rw [dpAllLen f4]; exact hj, ?_⟩
  exact p.nx _ _ _ _ h (s2.setLst h1 f1 (dpAllSet (dpUp q2 x) j f4)) (q1.trans q2)
/-- an own list is looked at as data from here on -/
theorem Sim.frz {c : Cc} {F H : Hp} {σ : L2.St} (s : Sim c F H σ ρ) (h0 : ρ[i]? = some (.own (.lst ds))) (hP : ∀ (a : Addr), (i, a) ∉ c.P) (hW : ∀ a, c.W a → ∃ j, (j, a) ∈ c.P) : ∃ F', Same F F' ∧ Sim c F' H σ (ρ.set i (.dat (.list ds))) := by
  obtain ⟨a, vs, e1, e2, e3, e4⟩ := s.lstAt h0
  obtain ⟨fp, sf⟩ := id s
  obtain ⟨b, e1', e2', _⟩ := sf.own i _ h0
  have := some_inj2 e1 e1'
  subst this
  have m : a ∈ fp i := by rw [e2']; simp
  have hi : i < ρ.length := (List.getElem?_eq_some_iff.mp h0).1
  have hB : c.B a = none := by
    rcases (sf.ownF i _ a h0 m).2.2 with q | q
    · exact q
    · obtain ⟨j, hj⟩ := hW a q
      have := sf.wp i _ a h0 m j hj
      subst this
      exact absurd hj (hP a)
  have s1 : SimF c F H σ (ρ.set i .no) fp := by
    have o' : ∀ (j : Nat) (w : Ow), (ρ.set i .no)[j]? = some (.own w) → j ≠ i ∧ ρ[j]? = some (.own w) := fun j w q => by
      by_cases z : j = i
      · subst z; rw [List.getElem?_set_self hi] at q; cases q
      · rw [List.getElem?_set_ne (Ne.symm z)] at q; exact ⟨z, q⟩
    have d' : ∀ (j : Nat) (d : D), (ρ.set i .no)[j]? = some (.dat d) → ρ[j]? = some (.dat d) := fun j w q => by
      by_cases z : j = i
      · subst z; rw [List.getElem?_set_self hi] at q; cases q
      · rw [List.getElem?_set_ne (Ne.symm z)] at q; exact q
    exact ⟨sf.f0, sf.fh, sf.keep, sf.dom, sf.av, sf.par, fun j d q => sf.dat j d (d' j d q), fun j w q => sf.own j w (o' j w q).2, fun j w b q => sf.ownF j w b (o' j w q).2, fun j k w w' b q q' => sf.sep j k w w' b (o' j w q).2 (o' k w' q').2, by simpa using sf.len, fun j w b q => sf.wp j w b (o' j w q).2, sf.pb, sf.tb, sf.tw⟩
  have s2 := s1.freeze e2 hB (fun j w q m' => by
    by_cases z : j = i
    · subst z; rw [List.getElem?_set_self hi] at q; cases q
    · rw [List.getElem?_set_ne (Ne.symm z)] at q
      exact z (sf.sep j i w _ a q h0 m' m)) e3
  have e5 : Same F (upd F a (.lst vs)) := sameNew e3
  refine ⟨_, e5, ?_⟩
  have s3 : Sim c (upd F a (.lst vs)) H σ (ρ.set i .no) := ⟨fp, s2⟩
  have s4 := s3.setDat (i := i) (v := .ref a) (d := .list ds) (.lst (.inl (.inl upd_same)) (dpAllUp e5 e4)) (by simpa using hi) hP
  have e6 : σ.set i (some (.ref a)) = σ := by
    apply List.ext_getElem?
    intro n
    by_cases z : n = i
    · subst z
      rw [List.getElem?_set_self (by rw [sf.len]; exact hi), e1]
    · rw [List.getElem?_set_ne (Ne.symm z)]
  rw [e6, List.set_set] at s4
  exact s4
theorem sv_frz {ts : TS} (h0 : ρ[i]? = some (.own (.lst ds))) (h : Sv g ts (ρ.set i (.dat (.list ds))) P) (hp : i ∉ g.ps := by simp) : Sv g ts ρ P := fun c F H σ E k s p => by
  obtain ⟨F', e, s'⟩ := s.frz h0 (notP k hp) k.wp
  exact h c F' H σ E k s' (p.up e)
end
def WalkD (K : PySem.W.Frag) (F : Hp) (J : It) (n : Nat) (xs : Nat → D) : Prop := ∀ F2 H2, Same F F2 → Same F2 H2 →
  (∀ i, i < n → J.go i H2) ∧ J.stop n H2 ∧ ∀ i x H', i < n → J.yld i H2 x H' → ∃ F', Res K F2 H2 x (xs i) F' H'
def EvI (g : Gm) (wi : TI) (ρ : Rho) (n : Nat) (xs : Nat → D) (ρ' : Rho) : Prop := ∀ (c : Cc) (F H : Hp) (σ : L2.St), c.ok g → Sim c F H σ ρ → ∀ R : It → Hp → Prop, (∀ J F' H', Sim c F' H' σ ρ' → Same F F' → WalkD c.K F' J n xs → R J H') → wi σ H R
def nthD (ds : List D) (i : Nat) : D := ds.getD i .none
theorem nthD_at {ds : List D} {i : Nat} (h : i < ds.length) : ds[i]? = some (nthD ds i) := by
  unfold nthD
  rw [List.getD_eq_getElem?_getD, List.getElem?_eq_getElem h]
  rfl
section
variable {te : TE} {ta : TA} {ρ ρ1 ρ2 : Rho} {ds : List D}
theorem walk_lstD {F : Hp} {a : Addr} {vs : List V} (h : SqL K F a vs) (k : DxAll K F vs ds) : WalkD K F (Itl K a) ds.length (nthD ds) := fun F2 H2 e1 e2 => by
  have q : SqL K H2 a vs := slUp e2 (slUp e1 h)
  have hl := dpAllLen k
  refine ⟨fun i hi => ⟨vs, vs[i]'(by omega), q, by simp [show i < vs.length by omega]⟩, ⟨vs, q, by omega⟩, fun i x H' hi y => ?_⟩
  obtain ⟨rfl, y⟩ := y
  obtain ⟨v, h1, h2⟩ := dpAllGet k (nthD_at hi)
  have := y vs q
  rw [h1] at this
  cases this
  exact ⟨F2, .at (dpUp e1 h2)⟩
theorem walk_tupD {F : Hp} {a : Addr} {vs : List V} (h : SqT K F a vs) (k : DxAll K F vs ds) : WalkD K F (Itt K a) ds.length (nthD ds) := fun F2 H2 e1 e2 => by
  have q : SqT K H2 a vs := stUp e2 (stUp e1 h)
  have hl := dpAllLen k
  refine ⟨fun i hi => ⟨vs, vs[i]'(by omega), q, by simp [show i < vs.length by omega]⟩, ⟨vs, q, by omega⟩, fun i x H' hi y => ?_⟩
  obtain ⟨rfl, y⟩ := y
  obtain ⟨v, h1, h2⟩ := dpAllGet k (nthD_at hi)
  have := y vs q
  rw [h1] at this
  cases this
  exact ⟨F2, .at (dpUp e1 h2)⟩
theorem ei_list (h : EvD g te ρ (.list ds) ρ1) : EvI g (iList g.K te) ρ ds.length (nthD ds) ρ1 := fun c F H σ k s R q => h c F H σ k s _ fun v F1 H1 s1 e1 x => by
  have kk : c.K = g.K := k.1
  cases x with
  | lst hs ha =>
    rw [kk] at hs ha
    exact ⟨_, rfl, ⟨_, slUp s1.fh hs⟩, q _ F1 H1 s1 e1 (by rw [kk]; exact walk_lstD hs ha)⟩
theorem ei_tup (h : EvD g te ρ (.tuple ds) ρ1) : EvI g (iTup g.K te) ρ ds.length (nthD ds) ρ1 := fun c F H σ k s R q => h c F H σ k s _ fun v F1 H1 s1 e1 x => by
  have kk : c.K = g.K := k.1
  cases x with
  | tup hs ha =>
    rw [kk] at hs ha
    exact ⟨_, rfl, ⟨_, stUp s1.fh hs.old⟩, q _ F1 H1 s1 e1 (by rw [kk]; exact walk_tupD hs.old ha)⟩
theorem walk_rngD {F : Hp} {lo : Int} {n : Nat} : WalkD K F (Itr lo n) n (fun i => .int (lo + i)) := fun F2 H2 e1 e2 =>
  ⟨fun i hi => hi, Nat.le_refl _, fun i x H' hi ⟨e, q⟩ => by
    subst e q
    exact ⟨F2, .at (.int _)⟩⟩
theorem ei_rng1 {n : Int} {A : Arg} (h : EvA g ta ρ [A] ρ1) (hA : A = .d (.int n)) (hb : -(2 ^ 62) ≤ n ∧ n < 2 ^ 62) : EvI g (iRng1 ta) ρ n.toNat (fun i => .int (0 + i)) ρ1 := fun c F H σ k s R q => h c F H σ k s _ fun vs F1 H1 s1 e1 x => by
  subst hA
  cases x with
  | cons a t =>
    cases t
    cases a with
    | d a =>
      cases a
      exact ⟨n, rfl, hb.1, hb.2, q _ F1 H1 s1 e1 walk_rngD⟩
theorem ei_rng2 {m n : Int} {A B : Arg} (h : EvA g ta ρ [A, B] ρ1) (hA : A = .d (.int m)) (hB : B = .d (.int n)) (hb : (-(2 ^ 62) ≤ m ∧ m < 2 ^ 62) ∧ -(2 ^ 62) ≤ n ∧ n < 2 ^ 62) : EvI g (iRng2 ta) ρ (n - m).toNat (fun i => .int (m + i)) ρ1 := fun c F H σ k s R q => h c F H σ k s _ fun vs F1 H1 s1 e1 x => by
  subst hA hB
  cases x with
  | cons a t =>
    cases t with
    | cons b t =>
      cases t
      cases a with
      | d a =>
        cases a
        cases b with
        | d b =>
          cases b
          exact ⟨m, n, rfl, ⟨hb.1.1, hb.1.2, hb.2.1, hb.2.2⟩, q _ F1 H1 s1 e1 walk_rngD⟩
end
def Tg (g : Gm) (t : TG) (d : D) (ρ ρ' : Rho) : Prop := ∀ (c : Cc) (F H : Hp) (σ : L2.St) (v : V), (∀ i, i ∉ g.ps → ∀ a, (i, a) ∉ c.P) → c.K = g.K → Sim c F H σ ρ → Dx c.K F v d → ∀ Q : L2.St → Hp → Prop, (∀ σ', Sim c F H σ' ρ' → Q σ' H) → t v σ H Q
theorem tg_name {ρ : Rho} {d : D} {i : Nat} (hi : i < ρ.length := by simp) (hp : i ∉ g.ps := by simp) : Tg g (gName i) d ρ (ρ.set i (.dat d)) := fun c F H σ v hP _ s x Q q => q _ (s.setDat x hi (hP i hp))
def Tgs (g : Gm) (t : TGs) (ds : List D) (ρ ρ' : Rho) : Prop := ∀ (c : Cc) (F H : Hp) (σ : L2.St) (vs : List V), (∀ i, i ∉ g.ps → ∀ a, (i, a) ∉ c.P) → c.K = g.K → Sim c F H σ ρ → DxAll c.K F vs ds → ∀ Q : L2.St → Hp → Prop, (∀ σ', Sim c F H σ' ρ' → Q σ' H) → t vs σ H Q
theorem tgs_nil {ρ : Rho} : Tgs g gNil [] ρ ρ := fun c F H σ vs hP _ s x Q q => by
  cases x
  exact ⟨rfl, q σ s⟩
theorem tgs_cons {t : TG} {u : TGs} {ρ ρ1 ρ2 : Rho} {d : D} {ds : List D} (h : Tg g t d ρ ρ1) (h2 : Tgs g u ds ρ1 ρ2) : Tgs g (gCons t u) (d :: ds) ρ ρ2 := fun c F H σ vs hP kk s x Q q => by
  cases x with
  | cons a b => exact ⟨_, _, rfl, h c F H σ _ hP kk s a _ fun σ' s' => h2 c F H σ' _ hP kk s' b Q q⟩
theorem tg_tup {n : Nat} {t : TGs} {ρ ρ1 : Rho} {ds : List D} (h : Tgs g t ds ρ ρ1) (hl : ds.length = n := by rfl) : Tg g (gTup g.K n t) (.tuple ds) ρ ρ1 := fun c F H σ v hP kk s x Q q => by
  cases x with
  | tup hs ha =>
    rw [kk] at hs
    exact ⟨_, _, rfl, stUp s.fh hs.old, by rw [dpAllLen ha]; exact hl, h c F H σ _ hP kk s ha Q q⟩
/-- a target, a whole assignment -/
theorem sv_asgT {te : TE} {t : TG} {ρ ρ1 ρ2 : Rho} {d : D} {P : Out → Prop} (he : EvD g te ρ d ρ1) (ht : Tg g t d ρ1 ρ2) (h : P (.nx ρ2)) : Sv g (tAsg te t) ρ P := fun c F H σ E k s p =>
  he c F H σ k.ok s _ fun v F1 H1 s1 e1 x => ht c F1 H1 σ v (fun i hi => notP k hi) k.ok.1 s1 x _ fun σ' s' => p.nx _ _ _ _ h s' e1
/-- what a turn's end means: I the turns' invariant -/
def Turn (I : Nat → Rho → Prop) (P : Out → Prop) (i : Nat) : Out → Prop
  | .nx ρ => I (i + 1) ρ
  | .ct ρ => I (i + 1) ρ
  | .bk ρ => P (.nx ρ)
  | .rt ρ r => P (.rt ρ r)
  | .ex C ρ => P (.ex C ρ)
theorem sv_for {wi : TI} {t : TG} {tb : TS} {ρ ρ1 : Rho} {n : Nat} {xs : Nat → D} {P : Out → Prop} (I : Nat → Rho → Prop) (hi : EvI g wi ρ n xs ρ1) (h0 : I 0 ρ1)
    (hs : ∀ i ρ', i < n → I i ρ' → ∃ ρ2, Tg g t (xs i) ρ' ρ2 ∧ Sv g tb ρ2 (Turn I P i)) (hd : ∀ ρ', I n ρ' → P (.nx ρ')) : Sv g (tFor wi t tb) ρ P := fun c F H σ E k s p => by
  refine hi c F H σ k.ok s _ fun J F1 H1 s1 e1 w => ?_
  refine ⟨fun i m σ' H' => m = n - i ∧ i ≤ n ∧ ∃ F' ρ', Same F1 F' ∧ I i ρ' ∧ Sim c F' H' σ' ρ', ⟨n, by omega, by omega, F1, ρ1, Same.refl _, h0, s1⟩, ?_⟩
  rintro i m σ' H' ⟨rfl, hi, F', ρ', e', q, s'⟩
  obtain ⟨w1, w2, w3⟩ := w F' H' e' s'.fh
  by_cases hlt : i < n
  · refine .inr ⟨w1 i hlt, fun σ'' H'' => ∃ F'' ρ'', Same F1 F'' ∧ I (i + 1) ρ'' ∧ Sim c F'' H'' σ'' ρ'', fun σ'' H'' ⟨F'', ρ'', a, b, d⟩ => ⟨n - (i + 1), by omega, rfl, by omega, F'', ρ'', a, b, d⟩, fun x H2 y => ?_⟩
    obtain ⟨F2, rs⟩ := w3 i x H2 hlt y
    obtain ⟨s2, e2, x2⟩ := rs.sim s'
    obtain ⟨ρ2, ht, hb⟩ := hs i ρ' hlt q
    refine ht c F2 H2 σ' x (fun i hi => notP k hi) k.ok.1 s2 x2 _ fun σ3 s3 => ?_
    refine hb c F2 H2 σ3 _ k s3 ⟨fun ρ4 F4 H4 σ4 a b d => ⟨F4, ρ4, (e'.trans e2).trans d, a, b⟩, fun ρ4 F4 H4 σ4 v r a b d z => p.rt _ _ _ _ _ _ a b (((e1.trans e').trans e2).trans d) z, fun ρ4 F4 H4 σ4 a b d => p.nx _ _ _ _ a b (((e1.trans e').trans e2).trans d), fun ρ4 F4 H4 σ4 a b d => ⟨F4, ρ4, (e'.trans e2).trans d, a, b⟩, fun ρ4 F4 H4 σ4 C a b d => p.ex _ _ _ _ _ a b (((e1.trans e').trans e2).trans d)⟩
  · have e : i = n := by omega
    subst e
    exact .inl ⟨w2, p.nx _ _ _ _ (hd ρ' q) s' (e1.trans e')⟩
/-- while -/
theorem sv_while {tc : TT} {tb : TS} {ρ : Rho} {P : Out → Prop} (I : Nat → Rho → Prop) (m0 : Nat) (h0 : I m0 ρ)
    (hs : ∀ m ρ', I m ρ' → ∃ b ρ2, EvT g tc ρ' b ρ2 ∧ (b = true → Sv g tb ρ2 fun o => match o with
      | .nx ρ => ∃ m', m' < m ∧ I m' ρ
      | .ct ρ => ∃ m', m' < m ∧ I m' ρ
      | .bk ρ => P (.nx ρ)
      | .rt ρ r => P (.rt ρ r)
      | .ex C ρ => P (.ex C ρ)) ∧ (b = false → P (.nx ρ2))) : Sv g (tWhile tc tb) ρ P := fun c F H σ E k s p => by
  refine ⟨fun m σ' H' => ∃ F' ρ', Same F F' ∧ I m ρ' ∧ Sim c F' H' σ' ρ', ⟨m0, F, ρ, Same.refl _, h0, s⟩, ?_⟩
  rintro m σ' H' ⟨F', ρ', e', q, s'⟩
  obtain ⟨b, ρ2, h1, h2, h3⟩ := hs m ρ' q
  refine h1 c F' H' σ' k.ok s' _ fun F2 H2 s2 e2 => ?_
  cases b with
  | true =>
    rw [if_pos rfl]
    refine ⟨fun σ'' H'' => ∃ m', m' < m ∧ ∃ F'' ρ'', Same F F'' ∧ I m' ρ'' ∧ Sim c F'' H'' σ'' ρ'', fun σ'' H'' ⟨m', hm, z⟩ => ⟨m', hm, z⟩, ?_⟩
    refine h2 rfl c F2 H2 σ' _ k s2 ⟨fun ρ4 F4 H4 σ4 ⟨m', hm, a⟩ b d => ⟨m', hm, F4, ρ4, (e'.trans e2).trans d, a, b⟩, fun ρ4 F4 H4 σ4 v r a b d z => p.rt _ _ _ _ _ _ a b ((e'.trans e2).trans d) z, fun ρ4 F4 H4 σ4 a b d => p.nx _ _ _ _ a b ((e'.trans e2).trans d), fun ρ4 F4 H4 σ4 ⟨m', hm, a⟩ b d => ⟨m', hm, F4, ρ4, (e'.trans e2).trans d, a, b⟩, fun ρ4 F4 H4 σ4 C a b d => p.ex _ _ _ _ _ a b ((e'.trans e2).trans d)⟩
  | false =>
    rw [if_neg (by decide)]
    exact p.nx _ _ _ _ (h3 rfl) s2 (e'.trans e2)
end DL
namespace DL
open PySem PySem.Spec PyProof.Rows L2
variable [TabC]
variable {K : PySem.W.Frag} {g : Gm}
def Cc.re (c : Cc) (F H : Hp) (W : Addr → Prop) : Cc := { c with F0 := F, B := H, W := W }
def ownW (ρ : Rho) (fp : Nat → List Addr) : Addr → Prop := fun b => ∃ (i : Nat) (w : Ow), ρ[i]? = some (.own w) ∧ b ∈ fp i
section
variable {c : Cc} {F F' H H' : Hp} {σ σ' : L2.St} {ρ ρ' : Rho} {fp fp' : Nat → List Addr}
theorem SimF.re (s : SimF c F H σ ρ fp) : SimF (c.re F H (ownW ρ fp)) F H σ ρ fp :=
  ⟨Same.refl _, s.fh, fun a o q _ => q, fun a q => q, fun a _ q => q, s.par, s.dat, s.own, fun i w b q m => ⟨(s.ownF i w b q m).1, (s.ownF i w b q m).2.1, .inr ⟨i, w, q, m⟩⟩, s.sep, s.len, s.wp, fun j b m => s.dom b (s.pb j b m), s.tabs, fun P hm ⟨_, _, q, m⟩ => s.noTab hm q m⟩
/-- back to the base of before: what was not own then stands -/
theorem SimF.un (s : SimF c F H σ ρ fp) (t : SimF (c.re F H (ownW ρ fp)) F' H' σ' ρ' fp') : SimF c F' H' σ' ρ' fp' :=
  ⟨s.f0.trans t.f0, t.fh, fun a o q w => t.keep a o (s.keep a o q w) fun ⟨i, w', e, m⟩ => by
      rcases (s.ownF i w' a e m).2.2 with z | z
      · rw [z] at q; cases q
      · exact w z, fun a q => t.dom a (s.dom a q), fun a q z => t.av a (s.dom a q) (s.av a q z), t.par, t.dat, t.own, fun i w b q m => by
      obtain ⟨h1, h2, h3⟩ := t.ownF i w b q m
      refine ⟨h1, h2, ?_⟩
      rcases h3 with z | ⟨j, w', e, m'⟩
      · refine .inl ?_
        cases e : c.B b with
        | none => rfl
        | some o => exact absurd z (s.dom b (by simp [e]))
      · exact (s.ownF j w' b e m').2.2, t.sep, t.len, t.wp, s.pb, s.tb, s.tw⟩
/-- an object that is nobody's changes -/
theorem SimF.other (s : SimF c F H σ ρ fp) {p : Addr} {o : HO} (hF : F p = none) (hB : c.B p = none) (no : ∀ (i : Nat) (w : Ow), ρ[i]? = some (.own w) → p ∉ fp i) : SimF c F (upd H p o) σ ρ fp := by
  have ne : ∀ (i : Nat) (w : Ow) b, ρ[i]? = some (.own w) → b ∈ fp i → b ≠ p := fun i w b q m z => no i w q (z ▸ m)
  refine ⟨s.f0, sameUpd s.fh hF, fun a u q w => ?_, fun a q => ?_, s.av, s.par, s.dat, fun i w q => ?_, fun i w b q m => ?_, s.sep, s.len, s.wp, s.pb, s.tb, s.tw⟩
  · have z : a ≠ p := fun z => by rw [z, hB] at q; cases q
    rw [upd_ne z]
    exact s.keep a u q w
  · by_cases z : a = p
    · rw [z, upd_same]; simp
    · rw [upd_ne z]; exact s.dom a q
  · obtain ⟨a, h1, h2⟩ := s.own i w q
    exact ⟨a, h1, h2.up (Same.refl _) fun b m => upd_ne (ne i w b q m)⟩
  · obtain ⟨h1, h2, h3⟩ := s.ownF i w b q m
    exact ⟨h1, by rw [upd_ne (ne i w b q m)]; exact h2, h3⟩
/-- other slots, other entries, at vs -/
theorem SimF.slots (s : SimF c F H σ ρ fp) (vs : List Nat) (h1 : ∀ i : Nat, i ∉ vs → σ'[i]? = σ[i]?) (h2 : ∀ i : Nat, i ∈ vs → ∀ e : Ent, ρ'[i]? = some e → e = .no) (h3 : ∀ i : Nat, i ∉ vs → ρ'[i]? = ρ[i]?) (hP : ∀ i a, (i, a) ∈ c.P → i ∉ vs) (hl : σ'.length = ρ'.length) :
    SimF c F H σ' ρ' fp := by
  have o' : ∀ (j : Nat) (w : Ow), ρ'[j]? = some (.own w) → j ∉ vs ∧ ρ[j]? = some (.own w) := fun j w q => by
    by_cases m : j ∈ vs
    · cases h2 j m _ q
    · rw [h3 j m] at q; exact ⟨m, q⟩
  refine ⟨s.f0, s.fh, s.keep, s.dom, s.av, fun i a m => by rw [h1 i (hP i a m)]; exact s.par i a m, fun j d q => ?_, fun j w q => ?_, fun j w b q => s.ownF j w b (o' j w q).2, fun j k w w' b q q' => s.sep j k w w' b (o' j w q).2 (o' k w' q').2, hl, fun j w b q => s.wp j w b (o' j w q).2, s.pb, s.tb, s.tw⟩
  · by_cases m : j ∈ vs
    · cases h2 j m _ q
    · rw [h3 j m] at q
      rw [h1 j m]
      exact s.dat j d q
  · obtain ⟨m, q'⟩ := o' j w q
    rw [h1 j m]
    exact s.own j w q'
end
theorem wipe_at {σ : L2.St} : ∀ {vs : List Nat} {i : Nat}, i ∉ vs → (wipe σ vs)[i]? = σ[i]?
  | [], _, _ => rfl
  | v :: vs, i, h => by
    unfold wipe
    rw [List.getElem?_set_ne (fun z : v = i => h (by rw [← z]; exact List.mem_cons_self))]
    exact wipe_at fun m => h (List.mem_cons_of_mem _ m)
theorem wipe_in {σ : L2.St} : ∀ {vs : List Nat} {i : Nat}, i ∈ vs → i < σ.length → (wipe σ vs)[i]? = some none
  | v :: vs, i, h, hi => by
    unfold wipe
    by_cases z : i = v
    · subst z
      rw [List.getElem?_set_self (by rw [wipe_length]; exact hi)]
    · rw [List.getElem?_set_ne (Ne.symm z)]
      exact wipe_in ((List.mem_cons.mp h).resolve_left z) hi
theorem wipe_ext {σ σ' : L2.St} {vs : List Nat} (hl : σ'.length = σ.length) (h : ∀ i : Nat, i ∉ vs → σ'[i]? = σ[i]?) : wipe σ' vs = wipe σ vs := by
  apply List.ext_getElem?
  intro i
  by_cases m : i ∈ vs
  · by_cases hi : i < σ.length
    · rw [wipe_in m hi, wipe_in m (by omega)]
    · rw [List.getElem?_eq_none (by rw [wipe_length]; omega), List.getElem?_eq_none (by rw [wipe_length]; omega)]
  · rw [wipe_at m, wipe_at m, h i m]
def Back (vs : List Nat) (ρ ρ' : Rho) : Prop := ρ'.length = ρ.length ∧ (∀ i : Nat, i ∈ vs → ∀ e : Ent, ρ'[i]? = some e → e = .no) ∧ ∀ i : Nat, i ∉ vs → ρ'[i]? = ρ[i]?
def TgC (g : Gm) (t : TG) (vs : List Nat) (d : D) (ρ ρ' : Rho) : Prop := ∀ (c : Cc) (F H : Hp) (σ : L2.St) (v : V), (∀ i, i ∉ g.ps → ∀ a, (i, a) ∉ c.P) → c.K = g.K → Sim c F H σ ρ → Dx c.K F v d → ∀ Q : L2.St → Hp → Prop,
  (∀ σ', Sim c F H σ' ρ' → σ'.length = σ.length → (∀ i : Nat, i ∉ vs → σ'[i]? = σ[i]?) → Q σ' H) → t v σ H Q
theorem tgc_name {ρ : Rho} {d : D} {j : Nat} {vs : List Nat} (hi : j < ρ.length := by simp) (hp : j ∉ g.ps := by simp) (hm : j ∈ vs := by simp) : TgC g (gName j) vs d ρ (ρ.set j (.dat d)) := fun c F H σ v hP _ s x Q q =>
  q _ (s.setDat x hi (hP j hp)) (by simp) fun i m => by rw [List.getElem?_set_ne (fun z : j = i => m (by rw [← z]; exact hm))]
theorem en_lc {wi : TI} {t : TG} {tt : TT} {te : TE} {vs : List Nat} {ρ ρ1 : Rho} {n : Nat} {xs : Nat → D} (hi : EvI g wi ρ n xs ρ1) (E : Nat → Rho) (bs : Nat → Bool) (ds : Nat → D) (h0 : E 0 = ρ1) (hz : n < sizeLine) (hv : ∀ i, i ∈ vs → i ∉ g.ps)
    (hE : ∀ i, i ≤ n → ∀ j : Nat, j ∈ vs → ∀ e : Ent, (E i)[j]? = some e → e = .no)
    (hs : ∀ i, i < n → ∃ ρ2 ρ3, TgC g t vs (xs i) (E i) ρ2 ∧ EvT g tt ρ2 (bs i) ρ3 ∧ (bs i = true → ∃ ρ4, EvD g te ρ3 (ds i) ρ4 ∧ Back vs ρ4 (E (i + 1))) ∧ (bs i = false → Back vs ρ3 (E (i + 1)))) :
    EvN g (tLc wi t tt te vs) ρ (((List.range n).filter bs).map ds) (E n) := fun c F H σ k s Q q => by
  refine hi c F H σ k s _ fun J F1 H1 s1 e1 w Dl hD => ?_
  subst h0
  have hBD : c.B Dl = none := by
    obtain ⟨fp, sf⟩ := id s1
    cases z : c.B Dl with
    | none => rfl
    | some u => exact absurd hD (sf.dom Dl (by simp [z]))
  have hP : ∀ i a, (i, a) ∈ c.P → i ∉ vs := fun i a m m' => hv i m' (by rw [← k.2]; exact List.mem_map.mpr ⟨(i, a), m, rfl⟩)
  have hP' : ∀ i, i ∉ g.ps → ∀ a, (i, a) ∉ c.P := fun i m a m' => m (by rw [← k.2]; exact List.mem_map.mpr ⟨(i, a), m', rfl⟩)
  have kk : c.K = g.K := k.1
  let out : Nat → List D := fun i => ((List.range i).filter bs).map ds
  have olen : ∀ i, (out i).length ≤ i := fun i => by
    have := List.length_filter_le bs (List.range i)
    simp only [out, List.length_map]
    rw [List.length_range] at this
    exact this
  refine ⟨fun i m H' => m = n - i ∧ i ≤ n ∧ ∃ F' fp acc, Same F1 F' ∧ SimF c F' H' σ (E i) fp ∧ H' Dl = some (.lst acc) ∧ F' Dl = none ∧ (∀ (j : Nat) (w : Ow), (E i)[j]? = some (.own w) → Dl ∉ fp j) ∧ DxAll c.K F' acc (out i), ⟨n, by omega, by omega, ?_⟩, ?_⟩
  · obtain ⟨fp, sf⟩ := s1
    have fD := freeF sf.fh hD
    have no : ∀ (j : Nat) (w : Ow), (E 0)[j]? = some (.own w) → Dl ∉ fp j := fun j w q m => (sf.ownF j w Dl q m).2.1 hD
    exact ⟨F1, fp, [], Same.refl _, sf.other fD hBD no, upd_same, fD, no, .nil⟩
  · rintro i m H2 ⟨rfl, hin, F2, fp2, acc, e2, s2, hD2, fD2, no2, ha2⟩
    obtain ⟨w1, w2, w3⟩ := w F2 H2 e2 s2.fh
    by_cases hlt : i < n
    · refine .inr ⟨w1 i hlt, fun H' => ∃ F' fp acc, Same F1 F' ∧ SimF c F' H' σ (E (i + 1)) fp ∧ H' Dl = some (.lst acc) ∧ F' Dl = none ∧ (∀ (j : Nat) (w : Ow), (E (i + 1))[j]? = some (.own w) → Dl ∉ fp j) ∧ DxAll c.K F' acc (out (i + 1)), fun H' z => ⟨n - (i + 1), by omega, rfl, by omega, z⟩, fun x H3 y => ?_⟩
      obtain ⟨F3, rs⟩ := w3 i x H3 hlt y
      -- the turn is told over the heap as it stands
      let c2 := c.re F2 H2 (ownW (E i) fp2)
      have k2 : c2.ok g := k
      have sr : Sim c2 F2 H2 σ (E i) := ⟨fp2, s2.re⟩
      obtain ⟨s3, e3, x3⟩ := rs.sim (c := c2) sr
      have sw : Sim c2 F3 H3 (wipe σ vs) (E i) := by
        obtain ⟨fp3, s3⟩ := s3
        exact ⟨fp3, s3.slots vs (fun j m => wipe_at m) (fun j m e q => hE i (by omega) j m e q) (fun _ _ => rfl) hP (by rw [wipe_length]; exact s3.len)⟩
      obtain ⟨ρ2, ρ3, ht, htt, hte, hno⟩ := hs i hlt
      -- what stands behind a turn
      have fin : ∀ (F5 H5 : Hp) (σ2 : L2.St) (ρ5 : Rho), Sim c2 F5 H5 σ2 ρ5 → Same F2 F5 → σ2.length = σ.length → (∀ j : Nat, j ∉ vs → σ2[j]? = σ[j]?) → Back vs ρ5 (E (i + 1)) → ∃ fp5, SimF c F5 H5 σ (E (i + 1)) fp5 ∧ H5 Dl = some (.lst acc) ∧ F5 Dl = none ∧ ∀ (j : Nat) (w : Ow), (E (i + 1))[j]? = some (.own w) → Dl ∉ fp5 j := fun F5 H5 σ2 ρ5 s5 e5 h3 hσ hb => by
        obtain ⟨fp5, s5⟩ := s5
        have nW : ¬ ownW (E i) fp2 Dl := fun ⟨j, w, q, m⟩ => no2 j w q m
        have hl : σ.length = (E (i + 1)).length := by
          have h1 := s5.len
          have h2 := hb.1
          omega
        have t := s2.un s5
        refine ⟨fp5, t.slots vs (fun j m => (hσ j m).symm) hb.2.1 hb.2.2 hP hl, s5.keep Dl _ hD2 nW, s5.av Dl (by show H2 Dl ≠ none; rw [hD2]; simp) fD2, fun j w q m => ?_⟩
        have q5 : ρ5[j]? = some (.own w) := by
          by_cases mm : j ∈ vs
          · cases hb.2.1 j mm _ q
          · rw [hb.2.2 j mm] at q; exact q
        rcases (s5.ownF j w Dl q5 m).2.2 with z | z
        · rw [show c2.B Dl = H2 Dl from rfl, hD2] at z; cases z
        · exact nW z
      refine ht c2 F3 H3 (wipe σ vs) x hP' kk sw x3 _ fun σ2 sg hlen hσ2 => ?_
      have hσ : ∀ j : Nat, j ∉ vs → σ2[j]? = σ[j]? := fun j m => (hσ2 j m).trans (wipe_at m)
      refine ⟨wipe_ext (by rw [hlen, wipe_length]) hσ, htt c2 F3 H3 σ2 k2 sg _ fun F4 H4 s4 e4 => ?_⟩
      cases hb : bs i with
      | true =>
        rw [if_pos rfl]
        obtain ⟨ρ4, he, hback⟩ := hte hb
        refine he c2 F4 H4 σ2 k2 s4 _ fun v F5 H5 s5 e5 x5 => ?_
        have e25 : Same F2 F5 := (e3.trans e4).trans e5
        obtain ⟨fp5, t5, hD5, fD5, no5⟩ := fin F5 H5 σ2 ρ4 s5 e25 (hlen.trans (wipe_length _ _)) hσ hback
        have hlen2 : acc.length ≤ i := by rw [dpAllLen ha2]; exact olen i
        refine ⟨acc, hD5, by omega, F5, fp5, acc ++ [v], e2.trans e25, t5.other fD5 hBD no5, upd_same, fD5, no5, ?_⟩
        have : out (i + 1) = out i ++ [ds i] := by
          simp only [out]
          rw [List.range_succ, List.filter_append, List.map_append, List.filter_cons, if_pos hb]
          rfl
        rw [this]
        exact dpAllApp (dpAllUp e25 ha2) (.cons x5 .nil)
      | false =>
        rw [if_neg (by decide)]
        have e24 : Same F2 F4 := e3.trans e4
        obtain ⟨fp5, t5, hD5, fD5, no5⟩ := fin F4 H4 σ2 ρ3 s4 e24 (hlen.trans (wipe_length _ _)) hσ (hno hb)
        have : out (i + 1) = out i := by
          simp only [out]
          rw [List.range_succ, List.filter_append, List.map_append, List.filter_cons, if_neg (by rw [hb]; decide)]
          simp
        exact ⟨F4, fp5, acc, e2.trans e24, t5, hD5, fD5, no5, by rw [this]; exact dpAllUp e24 ha2⟩
    · have e : i = n := by omega
      subst e
      refine .inl ⟨w2, ?_⟩
      -- the list, as if it were just made
      let Hb : Hp := fun a => if a = Dl then none else H2 a
      have eH : H2 = upd Hb Dl (.lst acc) := by
        funext a
        by_cases z : a = Dl
        · subst z; rw [upd_same, hD2]
        · rw [upd_ne z]; simp [Hb, z]
      have sb : SimF c F2 Hb σ (E i) fp2 := by
        have at' : ∀ a, a ≠ Dl → Hb a = H2 a := fun a z => by simp [Hb, z]
        refine ⟨s2.f0, fun a o z => ?_, fun a o z w' => ?_, fun a z => ?_, s2.av, s2.par, s2.dat, fun j w' z => ?_, fun j w' b z m => ?_, s2.sep, s2.len, s2.wp, s2.pb, s2.tb, s2.tw⟩
        · have : a ≠ Dl := fun z' => by rw [z', fD2] at z; cases z
          rw [at' a this]
          exact s2.fh a o z
        · have : a ≠ Dl := fun z' => by rw [z', hBD] at z; cases z
          rw [at' a this]
          exact s2.keep a o z w'
        · have : a ≠ Dl := fun z' => by rw [z', hBD] at z; exact z rfl
          rw [at' a this]
          exact s2.dom a z
        · obtain ⟨a, h1, h2⟩ := s2.own j w' z
          exact ⟨a, h1, h2.up (Same.refl _) fun b m => at' b fun z' => no2 j w' z (z' ▸ m)⟩
        · obtain ⟨h1, h2, h3⟩ := s2.ownF j w' b z m
          exact ⟨h1, by rw [at' b fun z' => no2 j w' z (z' ▸ m)]; exact h2, h3⟩
      rw [eH]
      exact q Dl acc F2 Hb ⟨fp2, sb⟩ (e1.trans e2) (by simp [Hb]) ha2
end DL
namespace DL
open PySem PySem.Spec PyProof.Rows L2
variable [TabC]
variable {K : PySem.W.Frag} {g : Gm}
def noW : Addr → Prop := fun _ => False
def SameT (F H : Hp) : Prop := Same F H ∧ TabsE H
theorem Sim.ft {c : Cc} {F H : Hp} {σ : L2.St} {ρ : Rho} (s : Sim c F H σ ρ) : SameT F H := ⟨s.fh, s.tabs⟩
/-- a def that is given data -/
def spD (R : List D → RetV → Prop) (K : PySem.W.Frag) : Sp := fun vs H Q _ => ∃ F ds r, SameT F H ∧ DxAll K F vs ds ∧ R ds r ∧
  ∀ v F' H', Sim ⟨K, [], noW, F, H⟩ F' H' [] [] → RetOk ⟨K, [], noW, F, H⟩ F' H' v r → Q v H'
/-- .. and ahead of it a list that it may change -/
def spS (R : List D → List D → RetV → List D → Prop) (K : PySem.W.Frag) : Sp := fun vs H Q _ => ∃ F a ws us st ds r st', vs = .ref a :: us ∧ SameT F H ∧ H a = some (.lst ws) ∧ F a = none ∧ DxAll K F ws st ∧ DxAll K F us ds ∧ R st ds r st' ∧
  ∀ v F' H', Sim ⟨K, [(0, a)], (· = a), F, H⟩ F' H' [some (.ref a)] [.own (.lst st')] → RetOk ⟨K, [(0, a)], (· = a), F, H⟩ F' H' v r → Q v H'
section
variable {c : Cc} {F F' H H' : Hp} {σ : L2.St} {ρ ρ' : Rho} {fp : Nat → List Addr}
theorem Sim.cut (s : Sim c F H σ ρ) (hP : c.P = []) : Sim c F H [] [] := by
  obtain ⟨fp, s⟩ := s
  exact ⟨fp, s.f0, s.fh, s.keep, s.dom, s.av, fun i a m => (by rw [hP] at m; cases m), fun i d q => (by simp at q), fun i w q => (by simp at q), fun i w b q => (by simp at q), fun i j w w' b q => (by simp at q), rfl, fun i w b q => (by simp at q), fun j b m => (by rw [hP] at m; cases m), s.tb, s.tw⟩
/-- behind a call: the caller's own things are as they were -/
theorem SimF.after (s : SimF c F H σ ρ fp) (t : Sim ⟨c.K, [], noW, F, H⟩ F' H' [] []) : SimF c F' H' σ ρ fp := by
  obtain ⟨fp', t⟩ := t
  have kp : ∀ (i : Nat) (w : Ow) b, ρ[i]? = some (.own w) → b ∈ fp i → H' b = H b := fun i w b q m => by
    cases z : H b with
    | none => exact absurd z (s.ownF i w b q m).2.1
    | some o => rw [t.keep b o z id]
  refine ⟨s.f0.trans t.f0, t.fh, fun a o q w => t.keep a o (s.keep a o q w) id, fun a q => t.dom a (s.dom a q), fun a q z => t.av a (s.dom a q) (s.av a q z), s.par, fun i d q => ?_, fun i w q => ?_, fun i w b q m => ?_, s.sep, s.len, s.wp, s.pb, s.tb, s.tw⟩
  · obtain ⟨v, h1, h2⟩ := s.dat i d q
    exact ⟨v, h1, dpUp t.f0 h2⟩
  · obtain ⟨a, h1, h2⟩ := s.own i w q
    exact ⟨a, h1, h2.up t.f0 fun b m => kp i w b q m⟩
  · obtain ⟨h1, h2, h3⟩ := s.ownF i w b q m
    exact ⟨t.av b h2 h1, by rw [kp i w b q m]; exact h2, h3⟩
/-- .. but the one at i -/
theorem SimF.afterS (s : SimF c F H σ ρ fp) {i : Nat} {a : Addr} {st st' : List D} (he : ρ[i]? = some (.own (.lst st))) (hσ : σ[i]? = some (some (.ref a))) (t : Sim ⟨c.K, [(0, a)], (· = a), F, H⟩ F' H' [some (.ref a)] [.own (.lst st')]) :
    SimF c F' H' σ (ρ.set i (.own (.lst st'))) fp := by
  obtain ⟨fp', t⟩ := t
  have hi : i < ρ.length := (List.getElem?_eq_some_iff.mp he).1
  obtain ⟨a', e1, e2, vs, e3, e4⟩ := s.own i _ he
  have := some_inj2 e1 hσ
  subst this
  have m0 : a' ∈ fp i := by rw [e2]; simp
  have ne : ∀ (j : Nat) (w : Ow) b, ρ[j]? = some (.own w) → b ∈ fp j → j ≠ i → b ≠ a' := fun j w b q m z e => by
    subst e
    exact z (s.sep j i w _ b q he m m0)
  have kp : ∀ (j : Nat) (w : Ow) b, ρ[j]? = some (.own w) → b ∈ fp j → j ≠ i → H' b = H b := fun j w b q m z => by
    cases y : H b with
    | none => exact absurd y (s.ownF j w b q m).2.1
    | some o => rw [t.keep b o y (ne j w b q m z)]
  obtain ⟨a2, f1, f2, ws, f3, f4⟩ := t.own 0 _ rfl
  have : a2 = a' := by
    have q : some (some (V.ref a')) = some (some (V.ref a2)) := f1
    cases q
    rfl
  subst this
  have own' : ∀ (j : Nat) (w' : Ow), (ρ.set i (.own (.lst st')))[j]? = some (.own w') → (j = i ∧ w' = .lst st') ∨ (j ≠ i ∧ ρ[j]? = some (.own w')) := fun j w' q => by
    by_cases z : j = i
    · subst z
      rw [List.getElem?_set_self hi] at q
      cases q
      exact .inl ⟨rfl, rfl⟩
    · rw [List.getElem?_set_ne (Ne.symm z)] at q
      exact .inr ⟨z, q⟩
  have old : ∀ (j : Nat) (w' : Ow), (ρ.set i (.own (.lst st')))[j]? = some (.own w') → ∃ w0, ρ[j]? = some (.own w0) := fun j w' q => by
    rcases own' j w' q with ⟨rfl, _⟩ | ⟨_, q⟩
    · exact ⟨_, he⟩
    · exact ⟨_, q⟩
  refine ⟨s.f0.trans t.f0, t.fh, fun b o q w => ?_, fun b q => t.dom b (s.dom b q), fun b q z => t.av b (s.dom b q) (s.av b q z), s.par, fun j d q => ?_, fun j w q => ?_, fun j w b q m => ?_, fun j k w w' b q q' m m' => ?_, by simpa using s.len, fun j w b q m => ?_, s.pb, s.tb, s.tw⟩
  · refine t.keep b o (s.keep b o q w) fun z => ?_
    have z : b = a2 := z
    subst z
    rcases (s.ownF i _ b he m0).2.2 with y | y
    · rw [y] at q; cases q
    · exact w y
  · by_cases z : j = i
    · subst z; rw [List.getElem?_set_self hi] at q; cases q
    · rw [List.getElem?_set_ne (Ne.symm z)] at q
      obtain ⟨v, h1, h2⟩ := s.dat j d q
      exact ⟨v, h1, dpUp t.f0 h2⟩
  · rcases own' j w q with ⟨rfl, rfl⟩ | ⟨z, q⟩
    · exact ⟨a2, e1, e2, ws, f3, f4⟩
    · obtain ⟨b, h1, h2⟩ := s.own j w q
      exact ⟨b, h1, h2.up t.f0 fun x m => kp j w x q m z⟩
  · obtain ⟨w0, q0⟩ := old j w q
    obtain ⟨h1, h2, h3⟩ := s.ownF j w0 b q0 m
    exact ⟨t.av b h2 h1, t.dom b h2, h3⟩
  · obtain ⟨w0, q0⟩ := old j w q
    obtain ⟨w1, q1⟩ := old k w' q'
    exact s.sep j k w0 w1 b q0 q1 m m'
  · obtain ⟨w0, q0⟩ := old j w q
    exact s.wp j w0 b q0 m
end
def NewAt (c : Cc) (F H : Hp) (σ : L2.St) (ρ : Rho) (a : Addr) (w : Ow) : Prop := ∃ f fp, SimF c F H σ ρ fp ∧ OwRep c.K F H a f w ∧ (∀ b ∈ f, F b = none ∧ H b ≠ none ∧ c.B b = none) ∧ ∀ (j : Nat) (w' : Ow) b, ρ[j]? = some (.own w') → b ∈ f → b ∉ fp j
def EvW (g : Gm) (te : TE) (ρ : Rho) (w : Ow) (ρ' : Rho) : Prop := ∀ (c : Cc) (F H : Hp) (σ : L2.St), c.ok g → Sim c F H σ ρ → ∀ Q : VK, (∀ a F' H', NewAt c F' H' σ ρ' a w → Same F F' → Q (.ref a) H') → te σ H Q
theorem SimF.setOwn {c : Cc} {F H : Hp} {σ : L2.St} {ρ : Rho} {fp : Nat → List Addr} (s : SimF c F H σ ρ fp) {i : Nat} {a : Addr} {f : List Addr} {w : Ow} (hr : OwRep c.K F H a f w) (hf : ∀ b ∈ f, F b = none ∧ H b ≠ none ∧ c.B b = none)
    (no : ∀ (j : Nat) (w' : Ow) b, ρ[j]? = some (.own w') → b ∈ f → b ∉ fp j) (hi : i < ρ.length) (hP : ∀ a, (i, a) ∉ c.P) : Sim c F H (σ.set i (some (.ref a))) (ρ.set i (.own w)) := by
  have hi' : i < σ.length := by rw [s.len]; exact hi
  have own' : ∀ (j : Nat) (w' : Ow), (ρ.set i (.own w))[j]? = some (.own w') → (j = i ∧ w' = w) ∨ (j ≠ i ∧ ρ[j]? = some (.own w')) := fun j w' q => by
    by_cases z : j = i
    · subst z
      rw [List.getElem?_set_self hi] at q
      cases q
      exact .inl ⟨rfl, rfl⟩
    · rw [List.getElem?_set_ne (Ne.symm z)] at q
      exact .inr ⟨z, q⟩
  refine ⟨fun j => if j = i then f else fp j, s.f0, s.fh, s.keep, s.dom, s.av, fun j b m => ?_, fun j d q => ?_, fun j w' q => ?_, fun j w' b q m => ?_, fun j k w' w'' b q q' m m' => ?_, by simpa using s.len, fun j w' b q m k hk => ?_, s.pb, s.tb, s.tw⟩
  · have z : j ≠ i := fun z => hP b (z ▸ m)
    rw [List.getElem?_set_ne (Ne.symm z)]
    exact s.par j b m
  · by_cases z : j = i
    · subst z
      rw [List.getElem?_set_self hi] at q
      cases q
    · rw [List.getElem?_set_ne (Ne.symm z)] at q ⊢
      exact s.dat j d q
  · rcases own' j w' q with ⟨rfl, rfl⟩ | ⟨z, q'⟩
    · exact ⟨a, List.getElem?_set_self hi', by simpa using hr⟩
    · rw [List.getElem?_set_ne (Ne.symm z)]
      simpa [z] using s.own j w' q'
  · rcases own' j w' q with ⟨rfl, rfl⟩ | ⟨z, q'⟩
    · have m' : b ∈ f := by simpa using m
      exact ⟨(hf b m').1, (hf b m').2.1, .inl (hf b m').2.2⟩
    · exact s.ownF j w' b q' (by simpa [z] using m)
  · rcases own' j w' q with ⟨rfl, rfl⟩ | ⟨z, q1⟩
    · rcases own' k w'' q' with ⟨rfl, rfl⟩ | ⟨z', q2⟩
      · rfl
      · exact absurd (by simpa [z'] using m') (no k w'' b q2 (by simpa using m))
    · rcases own' k w'' q' with ⟨rfl, rfl⟩ | ⟨z', q2⟩
      · exact absurd (by simpa [z] using m) (no j w' b q1 (by simpa using m'))
      · exact s.sep j k w' w'' b q1 q2 (by simpa [z] using m) (by simpa [z'] using m')
  · rcases own' j w' q with ⟨rfl, rfl⟩ | ⟨z, q1⟩
    · exact absurd (hf b (by simpa using m)).2.2 (s.pb k b hk)
    · exact s.wp j w' b q1 (by simpa [z] using m) k hk
theorem sv_setW {te : TE} {ρ ρ1 : Rho} {w : Ow} {i : Nat} {P : Out → Prop} (he : EvW g te ρ w ρ1) (h : P (.nx (ρ1.set i (.own w)))) (hi : i < ρ1.length := by simp) (hp : i ∉ g.ps := by simp) : Sv g (tAsg te (gName i)) ρ P := fun c F H σ E k s p =>
  he c F H σ k.ok s _ fun a F' H' ⟨f, fp, s', hr, hf, no⟩ e => p.nx _ _ _ _ h (s'.setOwn hr hf no hi (notP k hp)) e
/-- a new list becomes data -/
theorem ed_ofW {te : TE} {ρ ρ1 : Rho} {ds : List D} (h : EvW g te ρ (.lst ds) ρ1) : EvD g te ρ (.list ds) ρ1 := fun c F H σ k s Q q => h c F H σ k s _ fun a F' H' ⟨f, fp, s', hr, hf, no⟩ e => by
  obtain ⟨rfl, vs, h1, h2⟩ := hr
  obtain ⟨k1, k2, k3⟩ := hf a (by simp)
  have e2 : Same F' (upd F' a (.lst vs)) := sameNew k1
  exact q _ _ H' ⟨fp, s'.freeze h1 k3 (fun i w z m => no i w a z (by simp) m) k1⟩ (e.trans e2) (.lst (.inl (.inl upd_same)) (dpAllUp e2 h2))
theorem sv_retW {te : TE} {ρ ρ1 : Rho} {w : Ow} {P : Out → Prop} (he : EvW g te ρ w ρ1) (h : P (.rt ρ1 (.new w))) : Sv g (tRet te) ρ P := fun c F H σ E k s p =>
  he c F H σ k.ok s _ fun a F' H' ⟨f, fp, s', hr, hf, no⟩ e => p.rt _ _ _ _ _ _ h ⟨fp, s'⟩ e ⟨a, f, rfl, hr, hf⟩
section
variable {t : TA} {ρ ρ1 : Rho} {As : List Arg} {ds : List D} {d : D} {E : XK} {te : TE}
/-- all operands as data: own lists are lent -/
theorem lend {c : Cc} {F H : Hp} {σ : L2.St} {vs : List V} (s : Sim c F H σ ρ) (h : ArgsAt c.K F σ vs As) (hd : datas As = some ds) : DxAll c.K F vs ds := h.datas hd
theorem ed_call {R : List D → RetV → Prop} (ha : EvA g t ρ As ρ1) (hR : R ds (.dat d)) (hd : datas As = some ds := by rfl) : EvD g (tCall (spD R g.K) [] E t) ρ d ρ1 := fun c F H σ k s Q q =>
  ha c F H σ k s _ fun vs F1 H1 s1 e1 h1 => by
    have kk : c.K = g.K := k.1
    obtain ⟨fp, sf⟩ := id s1
    rw [List.append_nil, ← kk]
    refine ⟨F1, ds, .dat d, s1.ft, h1.datas hd, hR, fun v F' H' t r => ?_⟩
    have t' := sf.after t
    exact q v F' H' ⟨fp, t'⟩ (e1.trans t.f0) r
theorem ew_call {R : List D → RetV → Prop} {w : Ow} (ha : EvA g t ρ As ρ1) (hR : R ds (.new w)) (hd : datas As = some ds := by rfl) : EvW g (tCall (spD R g.K) [] E t) ρ w ρ1 := fun c F H σ k s Q q =>
  ha c F H σ k s _ fun vs F1 H1 s1 e1 h1 => by
    have kk : c.K = g.K := k.1
    obtain ⟨fp, sf⟩ := id s1
    rw [List.append_nil, ← kk]
    refine ⟨F1, ds, .new w, s1.ft, h1.datas hd, hR, fun v F' H' t r => ?_⟩
    have t' := sf.after t
    obtain ⟨a, f, rfl, hr, hf⟩ := r
    refine q a F' H' ⟨f, fp, t', hr, fun b m => ⟨(hf b m).1, (hf b m).2.1, ?_⟩, fun j w' b z m m' => ?_⟩ (e1.trans t.f0)
    · cases z : c.B b with
      | none => rfl
      | some o => exact absurd (hf b m).2.2 (sf.dom b (by simp [z]))
    · exact (sf.ownF j w' b z m').2.1 (hf b m).2.2
/-- f(own, data ..) -/
theorem ed_callS {R : List D → List D → RetV → List D → Prop} {i : Nat} {st st' : List D} (ha : EvA g t ρ (.o i :: As) ρ1) (he : ρ1[i]? = some (.own (.lst st))) (hR : R st ds (.dat d) st') (hd : datas As = some ds := by rfl) :
    EvD g (tCall (spS R g.K) [] E t) ρ d (ρ1.set i (.own (.lst st'))) := fun c F H σ k s Q q =>
  ha c F H σ k s _ fun vs F1 H1 s1 e1 h1 => by
    have kk : c.K = g.K := k.1
    obtain ⟨fp, sf⟩ := id s1
    obtain ⟨a, ws, f1, f2, f3, f4⟩ := s1.lstAt he
    cases h1 with
    | cons x t1 =>
      cases x with
      | o x =>
        rename_i v vs
        have ev : v = .ref a := by
          rw [f1] at x
          cases x
          rfl
        subst ev
        rw [List.append_nil, ← kk]
        refine ⟨F1, a, ws, vs, st, ds, .dat d, st', rfl, s1.ft, f2, f3, f4, t1.datas hd, hR, fun v F' H' t r => ?_⟩
        exact q v F' H' ⟨fp, sf.afterS he f1 t⟩ (e1.trans t.f0) r
theorem ew_callS {R : List D → List D → RetV → List D → Prop} {i : Nat} {st st' : List D} {w : Ow} (ha : EvA g t ρ (.o i :: As) ρ1) (he : ρ1[i]? = some (.own (.lst st))) (hR : R st ds (.new w) st') (hd : datas As = some ds := by rfl) :
    EvW g (tCall (spS R g.K) [] E t) ρ w (ρ1.set i (.own (.lst st'))) := fun c F H σ k s Q q =>
  ha c F H σ k s _ fun vs F1 H1 s1 e1 h1 => by
    have kk : c.K = g.K := k.1
    obtain ⟨fp, sf⟩ := id s1
    obtain ⟨a, ws, f1, f2, f3, f4⟩ := s1.lstAt he
    cases h1 with
    | cons x t1 =>
      cases x with
      | o x =>
        rename_i v vs
        have ev : v = .ref a := by
          rw [f1] at x
          cases x
          rfl
        subst ev
        rw [List.append_nil, ← kk]
        refine ⟨F1, a, ws, vs, st, ds, .new w, st', rfl, s1.ft, f2, f3, f4, t1.datas hd, hR, fun v F' H' t r => ?_⟩
        obtain ⟨a', f, rfl, hr, hf⟩ := r
        have t' := sf.afterS he f1 t
        have hi : i < ρ1.length := (List.getElem?_eq_some_iff.mp he).1
        refine q a' F' H' ⟨f, fp, t', hr, fun b m => ⟨(hf b m).1, (hf b m).2.1, ?_⟩, fun j w' b z m m' => ?_⟩ (e1.trans t.f0)
        · cases z : c.B b with
          | none => rfl
          | some o => exact absurd (hf b m).2.2 (sf.dom b (by simp [z]))
        · have old : ∃ w0, ρ1[j]? = some (.own w0) := by
            by_cases y : j = i
            · exact ⟨_, y ▸ he⟩
            · rw [List.getElem?_set_ne (Ne.symm y)] at z
              exact ⟨_, z⟩
          obtain ⟨w0, z0⟩ := old
          exact (sf.ownF j w0 b z0 m').2.1 (hf b m).2.2
end
theorem start_get {N : List Str} {vs : List V} {i : Nat} {v : V} (h : vs[i]? = some v) : (start N vs)[i]? = some (some v) := by
  unfold L2.start
  have hi : i < vs.length := (List.getElem?_eq_some_iff.mp h).1
  rw [List.getElem?_append_left (by simpa using hi), List.getElem?_map, h]
  rfl
/-- the environment at a def's entry -/
def rho0 (N : List Str) (es : List Ent) : Rho := es ++ List.replicate (N.length - es.length) .no
theorem rho0_get {N : List Str} {es : List Ent} {i : Nat} {e : Ent} (h : (rho0 N es)[i]? = some e) : es[i]? = some e ∨ e = .no := by
  unfold rho0 at h
  by_cases hi : i < es.length
  · rw [List.getElem?_append_left hi] at h
    exact .inl h
  · rw [List.getElem?_append_right (by omega), List.getElem?_replicate] at h
    split at h
    · exact .inr (Option.some.inj h).symm
    · cases h
theorem rho0_len {N : List Str} {es : List Ent} {vs : List V} (h : vs.length = es.length) : (start N vs).length = (rho0 N es).length := by
  unfold L2.start rho0
  simp [h]
theorem sim_start {N : List Str} {vs : List V} {ds : List D} {F H : Hp} (e : SameT F H) (h : DxAll K F vs ds) : Sim ⟨K, [], noW, F, H⟩ F H (start N vs) (rho0 N (ds.map .dat)) := by
  have nown : ∀ (i : Nat) (w : Ow), (rho0 N (ds.map .dat))[i]? ≠ some (.own w) := fun i w q => by
    rcases rho0_get q with q | q
    · rw [List.getElem?_map] at q
      cases z : ds[i]? with
      | none => rw [z] at q; cases q
      | some d => rw [z] at q; cases q
    · cases q
  refine ⟨fun _ => [], Same.refl _, e.1, fun a o q _ => q, fun a q => q, fun a _ q => q, fun i a m => (nomatch m), fun i d q => ?_, fun i w q => (nown i w q).elim, fun i w b q => (nown i w q).elim, fun i j w w' b q => (nown i w q).elim, rho0_len (by rw [List.length_map]; exact dpAllLen h), fun i w b q => (nown i w q).elim, fun j b m => (nomatch m), e.2, fun _ _ z => z⟩
  rcases rho0_get q with q | q
  · rw [List.getElem?_map] at q
    cases z : ds[i]? with
    | none => rw [z] at q; cases q
    | some d' =>
      rw [z] at q
      cases q
      obtain ⟨v, h1, h2⟩ := dpAllGet h z
      exact ⟨v, start_get h1, h2⟩
  · cases q
theorem sim_startS {N : List Str} {us ws : List V} {a : Addr} {ds st : List D} {F H : Hp} (e : SameT F H) (ha : H a = some (.lst ws)) (hF : F a = none) (hs : DxAll K F ws st) (h : DxAll K F us ds) :
    Sim ⟨K, [(0, a)], (· = a), F, H⟩ F H (start N (.ref a :: us)) (rho0 N (.own (.lst st) :: ds.map .dat)) := by
  have nown : ∀ (i : Nat) (w : Ow), (rho0 N (.own (.lst st) :: ds.map .dat))[i]? = some (.own w) → i = 0 ∧ w = .lst st := fun i w q => by
    rcases rho0_get q with q | q
    · cases i with
      | zero => simp at q; exact ⟨rfl, q.symm⟩
      | succ i =>
        rw [List.getElem?_cons_succ, List.getElem?_map] at q
        cases z : ds[i]? with
        | none => rw [z] at q; cases q
        | some d => rw [z] at q; cases q
    · cases q
  refine ⟨fun _ => [a], Same.refl _, e.1, fun a o q _ => q, fun a q => q, fun a _ q => q, fun i b m => ?_, fun i d q => ?_, fun i w q => ?_, fun i w b q m => ?_, fun i j w w' b q q' _ _ => ?_, rho0_len (by simp [dpAllLen h]), fun i w b q m j hj => ?_, fun j b m => ?_, e.2, fun P m z => by
    have z : P = a := z
    have := e.2 P m
    rw [z, ha] at this
    cases this⟩
  · have z : (i, b) = (0, a) := by simpa using m
    cases z
    exact start_get rfl
  · rcases rho0_get q with q | q
    · cases i with
      | zero => simp at q
      | succ i =>
        rw [List.getElem?_cons_succ, List.getElem?_map] at q
        cases z : ds[i]? with
        | none => rw [z] at q; cases q
        | some d' =>
          rw [z] at q
          cases q
          obtain ⟨v, h1, h2⟩ := dpAllGet h z
          exact ⟨v, start_get (by simpa using h1), h2⟩
    · cases q
  · obtain ⟨rfl, rfl⟩ := nown i w q
    exact ⟨a, start_get rfl, rfl, ws, ha, hs⟩
  · have z : b = a := by simpa using m
    subst z
    exact ⟨hF, by rw [ha]; simp, .inr rfl⟩
  · exact (nown i w q).1.trans (nown j w' q').1.symm
  · have z : b = a := by simpa using m
    subst z
    have z : (j, b) = (0, b) := by simpa using hj
    cases z
    exact (nown i w q).1.symm
  · have z : (j, b) = (0, a) := by simpa using m
    cases z
    show H a ≠ none
    rw [ha]
    simp
/-- what a body has to come to -/
def RetP (r : RetV) : Out → Prop
  | .nx _ => r = .dat .none
  | .rt _ r' => r' = r
  | _ => False
def RetS (r : RetV) (st' : List D) : Out → Prop
  | .nx ρ => r = .dat .none ∧ ρ[0]? = some (.own (.lst st'))
  | .rt ρ r' => r' = r ∧ ρ[0]? = some (.own (.lst st'))
  | _ => False
theorem body_D {t : TS} {N : List Str} {vs : List V} {ds : List D} {F H : Hp} {r : RetV} {Q : VK} (e : SameT F H) (h : DxAll K F vs ds) (hb : Sv (gm K []) t (rho0 N (ds.map .dat)) (RetP r))
    (q : ∀ v F' H', Sim ⟨K, [], noW, F, H⟩ F' H' [] [] → RetOk ⟨K, [], noW, F, H⟩ F' H' v r → Q v H') : t { nx := fun _ H' => Q .non H', rt := Q } (start N vs) H :=
  hb ⟨K, [], noW, F, H⟩ F H _ _ ⟨⟨rfl, rfl⟩, fun a z => z.elim⟩ (sim_start e h)
    ⟨fun ρ F' H' σ z s e => q _ F' H' (s.cut rfl) (by rw [show r = .dat .none from z]; exact Dx.non), fun ρ F' H' σ v r' z s e x => q v F' H' (s.cut rfl) (by rw [← show r' = r from z]; exact x), fun _ _ _ _ z => z.elim, fun _ _ _ _ z => z.elim, fun _ _ _ _ _ z => z.elim⟩
theorem Sim.cutS {c : Cc} {F H : Hp} {σ : L2.St} {ρ : Rho} {a : Addr} {st : List D} (s : Sim c F H σ ρ) (hP : c.P = [(0, a)]) (h0 : ρ[0]? = some (.own (.lst st))) : Sim c F H [some (.ref a)] [.own (.lst st)] := by
  obtain ⟨fp, s⟩ := s
  have e0 : σ[0]? = some (some (.ref a)) := s.par 0 a (by rw [hP]; simp)
  have z1 : ∀ (i : Nat) (w : Ow), ([Ent.own (.lst st)] : Rho)[i]? = some (.own w) → i = 0 ∧ w = .lst st := fun i w q => by
    cases i with
    | zero => simp at q; exact ⟨rfl, q.symm⟩
    | succ i => simp at q
  refine ⟨fp, s.f0, s.fh, s.keep, s.dom, s.av, fun i b m => ?_, fun i d q => ?_, fun i w q => ?_, fun i w b q m => ?_, fun i j w w' b q q' _ _ => ?_, rfl, fun i w b q m => ?_, s.pb, s.tb, s.tw⟩
  · rw [hP] at m
    have z : (i, b) = (0, a) := by simpa using m
    cases z
    rfl
  · cases i with
    | zero => simp at q
    | succ i => simp at q
  · obtain ⟨rfl, rfl⟩ := z1 i w q
    obtain ⟨b, h1, h2⟩ := s.own 0 _ h0
    have := some_inj2 e0 h1
    subst this
    exact ⟨a, rfl, h2⟩
  · obtain ⟨rfl, rfl⟩ := z1 i w q
    exact s.ownF 0 _ b h0 m
  · exact (z1 i w q).1.trans (z1 j w' q').1.symm
  · obtain ⟨rfl, rfl⟩ := z1 i w q
    exact s.wp 0 _ b h0 m
theorem body_S {t : TS} {N : List Str} {us ws : List V} {a : Addr} {ds st st' : List D} {F H : Hp} {r : RetV} {Q : VK} (e : SameT F H) (ha : H a = some (.lst ws)) (hF : F a = none) (hs : DxAll K F ws st) (h : DxAll K F us ds)
    (hb : Sv (gm K [0]) t (rho0 N (.own (.lst st) :: ds.map .dat)) (RetS r st'))
    (q : ∀ v F' H', Sim ⟨K, [(0, a)], (· = a), F, H⟩ F' H' [some (.ref a)] [.own (.lst st')] → RetOk ⟨K, [(0, a)], (· = a), F, H⟩ F' H' v r → Q v H') : t { nx := fun _ H' => Q .non H', rt := Q } (start N (.ref a :: us)) H :=
  hb ⟨K, [(0, a)], (· = a), F, H⟩ F H _ _ ⟨⟨rfl, rfl⟩, fun b z => ⟨0, by rw [show b = a from z]; simp⟩⟩ (sim_startS e ha hF hs h)
    ⟨fun ρ F' H' σ z s e => q _ F' H' (s.cutS rfl z.2) (by rw [z.1]; exact Dx.non), fun ρ F' H' σ v r' z s e x => q v F' H' (s.cutS rfl z.2) (by rw [← z.1]; exact x), fun _ _ _ _ z => z.elim, fun _ _ _ _ z => z.elim, fun _ _ _ _ _ z => z.elim⟩
section
variable {P : Program} {w : World} {mg : Str → Option Value} {base : Heap} {x qual : Str} {st : Stmt} {f : Addr} {fd : FuncData} {N ps : List Str} {k : Nat}
/-- THE RULE for a def of data -/
theorem def_D {R : List D → RetV → Prop} (Fn : Fun K x qual st f fd) (S : FnScope N ps (defScope st)) (len : ∀ ds r, R ds r → ds.length = ps.length)
    {t : TS}
    (ht : ∀ (cdv : Value) (A : Around) (outer : List PySem.Env) (s : Shared) (H : Hp) (E : XK), Room k (A.deeper (envOfC qual (defScope st) s.heap.objs.size f cdv)) → PSs (cxOf CX0 P w K mg base N qual (defScope st) f cdv A outer s H E).nox (defBody st) t)
    (hv : ∀ ds r, R ds r → Sv (gm K []) t (rho0 N (ds.map .dat)) (RetP r)) : FnOk P w K mg base CX0 (k + 1) f fd ps (spD R K) := by
  refine Fn.ok S (fun vs H Q E h => ?_) (fun cdv A outer s H vs Q E hr h => ?_)
  · obtain ⟨F, ds, r, _, h1, h2, _⟩ := h
    rw [dpAllLen h1]
    exact len ds r h2
  · obtain ⟨F, ds, r, e, h1, h2, q⟩ := h
    exact ⟨t, ht cdv A outer s H E hr, body_D e h1 (hv ds r h2) q⟩
/-- .. with a list that it may change -/
theorem def_S {R : List D → List D → RetV → List D → Prop} (Fn : Fun K x qual st f fd) (S : FnScope N ps (defScope st)) (len : ∀ st0 ds r st1, R st0 ds r st1 → ds.length + 1 = ps.length) {t : TS}
    (ht : ∀ (cdv : Value) (A : Around) (outer : List PySem.Env) (s : Shared) (H : Hp) (E : XK), Room k (A.deeper (envOfC qual (defScope st) s.heap.objs.size f cdv)) → PSs (cxOf CX0 P w K mg base N qual (defScope st) f cdv A outer s H E).nox (defBody st) t)
    (hv : ∀ st0 ds r st1, R st0 ds r st1 → Sv (gm K [0]) t (rho0 N (.own (.lst st0) :: ds.map .dat)) (RetS r st1)) : FnOk P w K mg base CX0 (k + 1) f fd ps (spS R K) := by
  refine Fn.ok S (fun vs H Q E h => ?_) (fun cdv A outer s H vs Q E hr h => ?_)
  · obtain ⟨F, a, ws, us, s0, ds, r, s1, rfl, _, _, _, _, h1, h2, _⟩ := h
    rw [List.length_cons, dpAllLen h1]
    exact len _ ds r _ h2
  · obtain ⟨F, a, ws, us, s0, ds, r, s1, rfl, e, ha, hF, hs, h1, h2, q⟩ := h
    exact ⟨t, ht cdv A outer s H E hr, body_S e ha hF hs h1 (hv _ ds r _ h2) q⟩
end
end DL
namespace DL
open PySem PySem.Spec PyProof.Rows L2
variable [TabC]
variable {K : PySem.W.Frag} {g : Gm} {X : Cx}
def rAddS : R2 := fun x y H Q => ∃ i j, x = .str i ∧ y = .str j ∧ i.length + j.length ≤ sizeLine ∧ Q (.str (i ++ j)) H
def uAdd (K : PySem.W.Frag) : R2 := fun x y H Q => rI0 (fun i j => .int (i + j)) x y H Q ∨ (rAddS x y H Q ∨ rCatX K x y H Q)
theorem op_uAdd : OpR X (binaryOp .Add) (uAdd X.K) := OpR.or op_add (OpR.or op_add_str op_catX)
theorem ra_int {i j : Int} : R2D K (uAdd K) (.int i) (.int j) (.int (i + j)) := r2_or1 r2_int
theorem ra_str {i j : Str} (hz : i.length + j.length ≤ sizeLine) : R2D K (uAdd K) (.str i) (.str j) (.str (i ++ j)) := r2_or2 (r2_or1 fun F H x y Q f a b q => ⟨i, j, a.str, b.str, hz, q _ F H (.at (.str _))⟩)
theorem ra_tup {xs ys : List D} (hz : xs.length + ys.length ≤ sizeLine) : R2D K (uAdd K) (.tuple xs) (.tuple ys) (.tuple (xs ++ ys)) := r2_or2 (r2_or2 (r2_catT hz))
theorem PI.or {tg iter : Expr} {wi wi' : TI} (h : PI X tg iter wi) (h' : PI X tg iter wi') : PI X tg iter (fun σ H R => wi σ H R ∨ wi' σ H R) := by
  refine ⟨fun pins s σ H R I hw => ?_⟩
  rcases hw with hw | hw
  · exact h.run pins s σ H R I hw
  · exact h'.run pins s σ H R I hw
def uIter (K : PySem.W.Frag) (te : TE) : TI := fun σ H R => iList K te σ H R ∨ iTup K te σ H R
theorem pi_u {tg l : Expr} {tl : TE} (hl : PE X l tl) : PI X tg l (uIter X.K tl) := PI.or (pi_list hl) (pi_tup hl)
section
variable {te : TE} {ρ ρ1 : Rho} {ds : List D}
theorem ei_uL (h : EvD g te ρ (.list ds) ρ1) : EvI g (uIter g.K te) ρ ds.length (nthD ds) ρ1 := fun c F H σ k s R q => .inl (ei_list h c F H σ k s R q)
theorem ei_uT (h : EvD g te ρ (.tuple ds) ρ1) : EvI g (uIter g.K te) ρ ds.length (nthD ds) ρ1 := fun c F H σ k s R q => .inr (ei_tup h c F H σ k s R q)
end
theorem units65 {A : Around} {k : Nat} (hr : Room k A) : A.units + 65 < cLine := by have := hr.un; omega
end DL
namespace DL
open PySem PySem.Spec PyProof.Rows L2
variable [TabC]
variable {K : PySem.W.Frag} {g : Gm}
theorem atI_in {ds : List D} {i : Int} (h0 : 0 ≤ i) (h1 : i < ds.length) : atI ds i = some (nthD ds i.toNat) := by
  have e : i = (i.toNat : Int) := by omega
  conv => lhs; rw [e]
  exact atI_nat (nthD_at (by omega))
theorem atI_ints {ns : List Int} {i : Int} (h0 : 0 ≤ i) (h1 : i < ns.length) : atI (ns.map PyData.int) i = some (.int (ns.getD i.toNat 0)) := by
  have e : i = (i.toNat : Int) := by omega
  have hi : i.toNat < ns.length := by omega
  conv => lhs; rw [e]
  refine atI_nat ?_
  rw [List.getElem?_map, List.getElem?_eq_getElem hi, List.getD_eq_getElem?_getD, List.getElem?_eq_getElem hi]
  rfl
structure Good (N : List Int) : Prop where
  pos : 0 < N.length
  len : N.length ≤ 4000
  lo : ∀ x ∈ N, 0 ≤ x
  hi : ∀ x ∈ N, x < 1009
def stAt (N : List Int) (k : Int) : List D := [.list (N.map .int), .int k]
def nxt (N : List Int) (k many : Int) : Int := (N.getD ((k + 1) % N.length).toNat 0 + ((k + 1) / N.length) * 389 + (k + 1) * ((k + 1) / N.length) * 17) % many
def KMax : Int := 1000000000
theorem nxt_lo {N : List Int} {k many : Int} (h : 0 < many) : 0 ≤ nxt N k many := Int.emod_nonneg _ (by omega)
theorem nxt_hi {N : List Int} {k many : Int} (h : 0 < many) : nxt N k many < many := Int.emod_lt_of_pos _ h
theorem good_div {N : List Int} (G : Good N) {k : Int} (h0 : 0 ≤ k) (h1 : k ≤ KMax) : 0 ≤ k / (N.length : Int) ∧ k / (N.length : Int) ≤ KMax := by
  have hp := G.pos
  refine ⟨Int.ediv_nonneg h0 (by omega), Int.le_trans (Int.ediv_le_self _ h0) h1⟩
end DL
namespace DL
open PySem PySem.Spec PyProof.Rows L2
variable [TabC]
variable {K : PySem.W.Frag} {g : Gm}
theorem Wk.trans : ∀ {a b c : Rho}, Wk a b → Wk b c → Wk a c
  | _, _, _, .nil, .nil => .nil
  | _, _, _, .eq h, .eq h' => .eq (h.trans h')
  | _, _, _, .eq h, .no h' => .no (h.trans h')
  | _, _, _, .no h, .eq h' => .no (h.trans h')
  | _, _, _, .no h, .no h' => .no (h.trans h')
def dig : Nat → Int → List Int
  | 0, _ => []
  | n + 1, r => r % 1009 :: if r / 1009 = 0 then [] else dig n (r / 1009)
def mxm (m0 : Int) : Nat → Int
  | 0 => m0
  | i + 1 => (mxm m0 i * 48271 + 7 * (0 + (i : Int)) + 11) % 2147483647
def mxo (m0 : Int) (i : Nat) : Int := (mxm m0 (i + 1) * 69621 + (0 + (i : Int))) % 2147483629 % 1009
def cellAbs (c : Int) : Int := if c < 0 then -c else c
def chunk (c : Int) : List Int := if 10 ^ 18 ≤ cellAbs c then dig 60 (cellAbs c) else (List.range 10).map (mxo (cellAbs c % 2147483647))
def flat (ns : List Int) : List Int := (ns.map chunk).flatten
def streamOf (ns : List Int) : List Int := if flat ns = [] then [0] else flat ns
theorem dig_bnd : ∀ (n : Nat) (r : Int), ∀ x ∈ dig n r, 0 ≤ x ∧ x < 1009
  | 0, _, x, h => by cases h
  | n + 1, r, x, h => by
    unfold dig at h
    rcases List.mem_cons.mp h with h | h
    · subst h
      omega
    · split at h
      · cases h
      · exact dig_bnd n _ x h
theorem dig_len : ∀ (n : Nat) (r : Int), (dig n r).length ≤ n
  | 0, _ => by simp [dig]
  | n + 1, r => by
    unfold dig
    split
    · simp
    · have := dig_len n (r / 1009)
      simp only [List.length_cons]
      omega
theorem chunk_bnd (c : Int) : ∀ x ∈ chunk c, 0 ≤ x ∧ x < 1009 := fun x h => by
  unfold chunk at h
  split at h
  · exact dig_bnd _ _ x h
  · obtain ⟨i, _, rfl⟩ := List.mem_map.mp h
    unfold mxo
    omega
theorem chunk_len (c : Int) : (chunk c).length ≤ 60 := by
  unfold chunk
  split
  · exact dig_len _ _
  · simp
theorem flat_len : ∀ ns : List Int, (flat ns).length ≤ 60 * ns.length
  | [] => by simp [flat]
  | n :: ns => by
    have h1 := flat_len ns
    have h2 := chunk_len n
    unfold flat at h1 ⊢
    simp only [List.map_cons, List.flatten_cons, List.length_append, List.length_cons]
    omega
theorem flat_bnd (ns : List Int) : ∀ x ∈ flat ns, 0 ≤ x ∧ x < 1009 := fun x h => by
  unfold flat at h
  obtain ⟨l, h1, h2⟩ := List.mem_flatten.mp h
  obtain ⟨c, _, rfl⟩ := List.mem_map.mp h1
  exact chunk_bnd c x h2
theorem good_stream {ns : List Int} (h : ns.length ≤ 63) : Good (streamOf ns) := by
  have h1 := flat_len ns
  have h2 := flat_bnd ns
  unfold streamOf
  split
  · exact ⟨by simp, by simp, fun x m => by simp at m; omega, fun x m => by simp at m; omega⟩
  · rename_i q
    refine ⟨?_, by omega, fun x m => (h2 x m).1, fun x m => (h2 x m).2⟩
    cases e : flat ns with
    | nil => exact absurd e q
    | cons a l => simp
theorem cut_to {ds : List D} {n : Nat} (h : ds.length ≤ n) : cutD ds none (some (n : Int)) = ds := by
  unfold cutD
  rw [HT.sIx_none, HT.sIx_nat]
  simp [Nat.min_eq_right h]
theorem nthD_ints {ns : List Int} {i : Nat} (h : i < ns.length) : nthD (ns.map PyData.int) i = .int (ns.getD i 0) := by
  unfold nthD
  rw [List.getD_eq_getElem?_getD, List.getElem?_map, List.getElem?_eq_getElem h, List.getD_eq_getElem?_getD, List.getElem?_eq_getElem h]
  rfl
theorem flat_take {ns : List Int} {i : Nat} (h : i < ns.length) : flat (ns.take (i + 1)) = flat (ns.take i) ++ chunk (ns.getD i 0) := by
  unfold flat
  rw [List.take_add_one, List.getElem?_eq_getElem h, List.getD_eq_getElem?_getD, List.getElem?_eq_getElem h]
  simp only [Option.toList, List.map_append, List.flatten_append, List.map_cons, List.map_nil, List.flatten_cons, List.flatten_nil, List.append_nil]
  rfl
end DL
namespace DL
open PySem PySem.Spec PyProof.Rows L2
variable [TabC]
set_option maxHeartbeats 8000000 in
theorem enumNew1 {v : Value} {o : Obj} {H : Heap → Prop} (B : Begins v o H) :
    Meets (Builtin.«enumerate.__new__» ⟨[.type "enumerate", v], []⟩) (fun _ R s => H s.heap ∧
      R (.ok (.ret (.ref (s.heap.push o).objs.size))) { s with heap := (s.heap.push o).push { cls := .type "enumerate", data := .fields #[.none, .bool false, .ref s.heap.objs.size, rawInt 0, .none, .none] } }) :=
  .of_wp fun prog w A R s h => by
    obtain ⟨hp, gs, dr, tk, os⟩ := s
    obtain ⟨h1, h⟩ := h
    have hsub := sub_enumerate
    have it1 : ∀ {A' : Around} {E : Value → Shared → Prop} {Q : Value → Shared → Prop}, Q (.ref hp.objs.size) ⟨hp.push o, gs, dr, tk, os⟩ → wpAny (model prog w) A' (pyIter v) Q E ⟨hp, gs, dr, tk, os⟩ :=
      fun q => B.iter prog w _ _ ⟨hp, gs, dr, tk, os⟩ _ h1 q
    wp_walk using it1
    refine wpAny_stack_any fun st => wpAny_pure ?_
    split
    · rename_i c _ _ _ _ _
      cases (c == Value.type "enumerate")
      · (wp_walk using it1); exact ⟨_, rfl, h⟩
      · (wp_walk using it1); exact ⟨_, rfl, h⟩
    · (wp_walk using it1); exact ⟨_, rfl, h⟩
theorem enumCall1 {prog : Program} {w : World} {A : Around} {E : Value → Shared → Prop} {s : Shared} {v : Value} {o : Obj} {H : Heap → Prop} {Q : Value → Shared → Prop} (B : Begins v o H) (h1 : H s.heap)
    (h : ∀ h', IsEnum h' (s.heap.objs.size + 1) s.heap.objs.size 0 .none → h'.get? s.heap.objs.size = some o → (∀ b u, s.heap.get? b = some u → h'.get? b = some u) → Q (.ref (s.heap.objs.size + 1)) { s with heap := h' }) :
    wpAny (model prog w) A (call (.type "enumerate") [v]) Q E s := by
  refine callType_new F.called_enumerate (by decide) (F.typeCall_enumerate_1 _) (F.newCall_enumerate_1 _) (fun obj => F.args_object_init_2 obj _) F.entry_enumerate_new (enumNew1 B) ⟨h1, ?_⟩
  have hz : (s.heap.push o).objs.size = s.heap.objs.size + 1 := Heap.size_push ..
  show _ ∧ _
  rw [hz]
  have he := Heap.get?_push_size (s.heap.push o) (o := { cls := .type "enumerate", data := .fields #[.none, .bool false, .ref s.heap.objs.size, rawInt 0, .none, .none] }) rfl
  rw [hz] at he
  exact ⟨⟨_, he, rfl⟩, h _ he (Heap.get?_push_of_some _ (Heap.get?_push_size _ B.free)) fun b u x => Heap.get?_push_of_some _ (Heap.get?_push_of_some _ x)⟩
def IteT (K : PySem.W.Frag) (a : Addr) : It :=
  ⟨fun i H => ∃ (xs : List V) (x : V), SqT K H a xs ∧ xs[i]? = some x,
    fun i H v H' => ∃ T x o, v = .ref T ∧ H T = none ∧ o.dict = none ∧ H' = upd H T (.frz o (.tup [.int (i : Nat), x])) ∧ ∀ xs, SqT K H a xs → xs[i]? = some x,
    fun i H => ∃ xs : List V, SqT K H a xs ∧ xs.length = i⟩
theorem turnEnumT {P : Program} {w : World} {K : PySem.W.Frag} {elts : List Expr} {kk : Nat} {tpos : Pos} (a e it : Addr) :
    L2.Turn P w K (.Tuple elts kk tpos) (IteT K a) [e, it] e (fun i h => (∃ old, IsEnum h e it ((i : Nat) : Int) old) ∧ h.IsTupleIter it a i ∧ e ≠ it) where
  mem := by simp
  obj := fun i h st b hb => by
    obtain ⟨⟨old, he⟩, ⟨o, ho, hc, hd⟩, _⟩ := st
    rcases (show b = e ∨ b = it by simpa using hb) with z | z
    · rw [z]
      exact ⟨_, he, fun v q => nomatch q⟩
    · rw [z]
      exact ⟨o, ho, fun v q => by rw [hd] at q; cases q⟩
  keep := fun i h h' st k => ⟨let ⟨old, he⟩ := st.1; ⟨old, k e (by simp) _ he⟩, st.2.1.at fun o q => k it (by simp) o q, st.2.2⟩
  item := by
    intro X hP hw hK hc i pins s σ H E I hf st hg
    subst hP hw hK
    obtain ⟨⟨old, he⟩, hit, hne⟩ := st
    obtain ⟨xs, x, hq, hx⟩ := hg
    obtain ⟨its, rv, ht, hz⟩ := I.tuple hq
    have hlen := rv.length
    have hi : i < its.toArray.size := by
      have := (List.getElem?_eq_some_iff.mp hx).1
      simp
      omega
    have hae : a ≠ e := fun z => by
      obtain ⟨o, h1, h2, _⟩ := ht
      rw [z] at h1
      have h3 : some o = some _ := h1.symm.trans he
      cases h3
      exact absurd (Value.type.inj h2) (by decide)
    have hai : a ≠ it := fun z => by
      obtain ⟨o, h1, h2, _⟩ := ht
      obtain ⟨o', h3, h4, _⟩ := hit
      rw [z] at h1
      rw [h1] at h3
      cases h3
      rw [h2] at h4
      exact absurd (Value.type.inj h4) (by decide)
    have hel : e < s.heap.objs.size := Heap.lt_size he
    have hil : it < s.heap.objs.size := by
      obtain ⟨_, q, _⟩ := hit
      exact Heap.lt_size q
    have D := Draws.tuple (prog := X.prog) (w := X.w) (A := X.A.in1) (show X.A.in1.handled = none from I.ok.hd hc) it a hai its.toArray
    refine wpAny_pyNext_enum_itemD D he ⟨hit, ht⟩ hi hne (by simp [hne, Ne.symm hae]) fun u h' tk hu ho hst hT hsz hk => ?_
    obtain ⟨u', hu', ru⟩ := rv.get hx
    have eu : u' = u := by
      have : its[i]? = some u := by simpa using hu
      rw [hu'] at this
      cases this
      rfl
    subst eu
    refine ⟨_, rfl, wpAny_letOwnedTupleGo_enum (s := { s with heap := h', toks := tk + 1 }) ho fun h2 he2 sb => ?_⟩
    have hT2 : h2.get? s.heap.objs.size = some { cls := .type "tuple", data := .seq #[.int i tk, u'] } := (sb.2 _ (Nat.ne_of_gt hel)).trans hT
    have new : ObjOk X.prog X.w (upd H s.heap.objs.size (.frz (tupO [.int i tk, u']) (.tup [.int (i : Nat), x]))) h2 s.heap.objs.size (.frz (tupO [.int i tk, u']) (.tup [.int (i : Nat), x])) :=
      ⟨hT2, by show 2 ≤ sizeLine; decide, [.int i tk, u'], .cons ⟨_, rfl⟩ (.cons ru .nil), ⟨_, hT2, rfl, _, rfl⟩⟩
    have I1 : L2.Inv X pins σ (upd H s.heap.objs.size (.frz (tupO [.int i tk, u']) (.tup [.int (i : Nat), x]))) { s with heap := h2, toks := tk + 1 } :=
      I.turnedNew (ch := [e, it]) (fun b ob hb q => (sb.2 b fun z => hb (by simp [z])).trans (hk b ob (fun z => hb (by simp [z])) (fun z => hb (by simp [z])) q)) hf (Nat.le_refl _) new
    refine ⟨.ref s.heap.objs.size, _, I1, rfl, ⟨_, x, _, rfl, I.hok.fresh (Nat.le_refl _), rfl, rfl, fun ys hy => by rw [I.tuple_inj hy hq]; exact hx⟩, ⟨⟨u', ?_⟩, hst.1.at fun o q => (sb.2 it (Ne.symm hne)).trans q, hne⟩, fun b hb => ?_⟩
    · rw [show ((i + 1 : Nat) : Int) = (i : Int) + 1 by omega]
      exact he2
    · have lt : b < s.heap.objs.size := by
        rcases (show b = e ∨ b = it by simpa using hb) with z | z <;> rw [z] <;> assumption
      rw [upd_ne (Nat.ne_of_lt lt)]
      exact (hf b hb).1
  done := by
    intro X hP hw hK hc i pins s σ H E I hf st hg
    subst hP hw hK
    obtain ⟨⟨old, he⟩, hit, hne⟩ := st
    obtain ⟨xs, hq, hx⟩ := hg
    obtain ⟨its, rv, ht, hz⟩ := I.tuple hq
    obtain ⟨f0, f1, f2, f3, f4, f5⟩ := hf it (by simp)
    have hai : a ≠ it := fun z => by
      obtain ⟨o, h1, h2, _⟩ := ht
      obtain ⟨o', h3, h4, _⟩ := hit
      rw [z] at h1
      rw [h1] at h3
      cases h3
      rw [h2] at h4
      exact absurd (Value.type.inj h4) (by decide)
    have D := Draws.tuple (prog := X.prog) (w := X.w) (A := X.A.in1) (show X.A.in1.handled = none from I.ok.hd hc) it a hai its.toArray
    have en : i = its.toArray.size := by
      have := rv.length
      simp
      omega
    subst en
    exact wpAny_pyNext_enum_endD D he ⟨hit, ht⟩ fun h' eb => ⟨rfl, I.turned (t' := s.toks) (fun b o hb q => eb b o hb q) f0 f1 f3 f4 f5⟩
  self := fun A i s Q E st h => let ⟨⟨_, he⟩, _⟩ := st; wpAny_pyIter_enum he h
def iEnT (K : PySem.W.Frag) (ta : TA) : TI := fun σ H R => ta σ H fun vs H1 => ∃ a xs, vs = [.ref a] ∧ SqT K H1 a xs ∧ R (IteT K a) H1
theorem pi_enumT {X : Cx} {e : Expr} {ta : TA} {p pos tpos : Pos} {elts : List Expr} {kk : Nat} (hg : Gl X "enumerate") (hm : X.mg "enumerate" = none) (ha : PA X [e] ta) (hs : starEach [e] X.env = [(false, eval e X.env)] := by rfl) :
    PI X (.Tuple elts kk tpos) (.Call (.Name "enumerate" p) [e] [] pos) (iEnT X.K ta) := by
  refine ⟨fun pins s σ H R I h => ?_⟩
  refine Call_ (ld_blt I hg hm boot_enumerate (PyProof.Rows.callWith_type1 (thn (ha.run pos pins s σ H _ I h) fun us s1 ⟨vs, H1, I1, r1, q1⟩ => ?_) hs rfl))
  obtain ⟨a, xs, rfl, hq, q⟩ := q1
  obtain ⟨u, rfl, ru⟩ := vals1 r1
  cases ru
  obtain ⟨its, rv, ht, hz⟩ := I1.tuple hq
  refine enumCall1 (begins_tuple a its.toArray) ht fun h' he hit hk => wpAny_pyIter_enum he ?_
  refine ⟨s1.heap.objs.size + 1, [s1.heap.objs.size + 1, s1.heap.objs.size], _, _, H1, rfl, I1.kept (t' := s1.toks) hk, turnEnumT a (s1.heap.objs.size + 1) s1.heap.objs.size, ⟨⟨.none, he⟩, ⟨_, hit, rfl, rfl⟩, Nat.succ_ne_self _⟩, fun b hb => ?_, q⟩
  have hle : s1.heap.objs.size ≤ b := by
    rcases (show b = s1.heap.objs.size + 1 ∨ b = s1.heap.objs.size by simpa using hb) with z | z
    · rw [z]
      exact Nat.le_succ _
    · rw [z]
      exact Nat.le_refl _
  exact I1.fpOk hle (I1.hok.fresh hle)
section
variable {g : Gm} {te : TE} {ρ ρ1 : Rho} {ds : List D} {K : PySem.W.Frag}
def pairD (ds : List D) (i : Nat) : D := .tuple [.int (i : Nat), nthD ds i]
theorem walk_enTD {F : Hp} {a : Addr} {vs : List V} (h : SqT K F a vs) (k : DxAll K F vs ds) : WalkD K F (IteT K a) ds.length (pairD ds) := fun F2 H2 e1 e2 => by
  have q : SqT K H2 a vs := stUp e2 (stUp e1 h)
  have hl := dpAllLen k
  refine ⟨fun i hi => ⟨vs, vs[i]'(by omega), q, by simp [show i < vs.length by omega]⟩, ⟨vs, q, hl⟩, fun i x H' hi y => ?_⟩
  obtain ⟨T, v, o, rfl, hT, ho, rfl, y⟩ := y
  obtain ⟨v', h1, h2⟩ := dpAllGet k (nthD_at hi)
  have := y vs q
  rw [h1] at this
  cases this
  exact ⟨_, .new hT ho (.cons (.int _) (.cons (dpUp e1 h2) .nil))⟩
theorem ei_enT (h : EvD g te ρ (.tuple ds) ρ1) : EvI g (iEnT g.K (tCons te tNil)) ρ ds.length (pairD ds) ρ1 := fun c F H σ k s R q => h c F H σ k s _ fun v F1 H1 s1 e1 x => by
  have kk : c.K = g.K := k.1
  cases x with
  | tup hs ha =>
    rw [kk] at hs ha
    exact ⟨_, _, rfl, stUp s1.fh hs.old, q _ F1 H1 s1 e1 (by rw [kk]; exact walk_enTD hs.old ha)⟩
end
end DL
namespace DL
open PySem PySem.Spec PyProof.Rows L2
variable [TabC]
variable {K : PySem.W.Frag} {g : Gm} {X : Cx}
theorem depthInts : ∀ ns : List Int, PyData.depthAll (ns.map PyData.int) = 0
  | [] => rfl
  | n :: ns => by
    have h := depthInts ns
    simp only [List.map_cons, PyData.depthAll, PyData.depth, h]
    decide
def uMax (K : PySem.W.Frag) : List V → Hp → VK → Prop := fun vs H Q => ∃ (a : Addr) (n : Int) (ns : List Int), vs = [.ref a] ∧ (SqL K H a ((n :: ns).map V.int) ∨ SqT K H a ((n :: ns).map V.int)) ∧ Q (.int (ns.foldl max n)) H
theorem rc_maxL {n : Int} {ns : List Int} : RCD K (uMax K) [.list ((n :: ns).map .int)] (.int (ns.foldl max n)) := fun F H xs Q f a q => by
  obtain ⟨v, rfl, a1⟩ := a.one
  obtain ⟨p, vs, rfl, h1, k1⟩ := a1.list f
  rw [dp_ints k1] at h1
  exact ⟨p, n, ns, rfl, .inl h1, q _ F H (.at (.int _))⟩
theorem rc_maxT {n : Int} {ns : List Int} : RCD K (uMax K) [.tuple ((n :: ns).map .int)] (.int (ns.foldl max n)) := fun F H xs Q f a q => by
  obtain ⟨v, rfl, a1⟩ := a.one
  obtain ⟨p, vs, rfl, h1, k1⟩ := a1.tup f
  rw [dp_ints k1] at h1
  exact ⟨p, n, ns, rfl, .inr h1, q _ F H (.at (.int _))⟩
def rIsaB (K : PySem.W.Frag) : List V → Hp → VK → Prop := rIsi K
def tyN : D → String
  | .none => "NoneType"
  | .bool _ => "bool"
  | .int _ => "int"
  | .str _ => "str"
  | .list _ => "list"
  | .tuple _ => "tuple"
  | .dict _ => "dict"
def notDct : D → Bool
  | .dict _ => false
  | _ => true
/-- isinstance of what is no dict -/
def kitN (d : D) (T : String) : Option Bool := if notDct d = true then kitB (tyN d) T else none
theorem tyx_of {F H : Hp} {v : V} {d : D} (e : Same F H) (h : Opd K F H v d) (hn : notDct d = true) : TyX K H v (.type (tyN d)) := by
  cases d with
  | none => rw [h.non]; exact .base .non
  | bool b => rw [h.bl]; exact .base (.bl _)
  | int b => rw [h.int]; exact .base (.int _)
  | str b => rw [h.str]; exact .base (.str _)
  | list ds =>
    obtain ⟨a, vs, rfl, h1, _⟩ := h.list e
    rcases h1 with (h1 | ⟨o, h1⟩) | ⟨o, its, n, hk, hc, _⟩
    · exact .base (.lst h1)
    · exact .base (.frz h1)
    · exact .kList hk hc
  | tuple ds =>
    obtain ⟨a, vs, rfl, h1, _⟩ := h.tup e
    rcases h1 with (h1 | ⟨o, h1⟩) | ⟨o, its, n, hk, hc, _⟩
    · exact .base (.tup h1)
    · exact .fTuple h1
    · exact .kTuple hk hc
  | dict ds => cases hn
theorem ed_isaB {te : TE} {ρ ρ1 : Rho} {A : Arg} {d : D} {T : String} {b : Bool} (ha : EvO g te ρ A ρ1) (dA : A.den ρ1 = some d) (hk0 : kitN d T = some b) : EvD g (tCB (rIsaB g.K) (tCons te (tCons (tC (.ty T)) tNil))) ρ (.bool b) ρ1 := fun c F H σ k s Q q =>
  ha c F H σ k s _ fun v F1 H1 s1 e1 h1 => by
    have o1 := Arg.opd s1 h1 dA
    have kk : c.K = g.K := k.1
    rw [kk] at o1
    unfold kitN at hk0
    split at hk0
    case isFalse => cases hk0
    rename_i hn
    exact ⟨v, .ty T, _, _, b, rfl, .ty T, tyx_of s1.fh o1 hn, kit_ty hk0, q _ F1 H1 s1 e1 (.bl b)⟩
/-- an own thing at slot i is another one now: what stands in its footprint has changed, nothing else -/
theorem Sim.alter {c : Cc} {F H H' : Hp} {σ : L2.St} {ρ : Rho} {fp : Nat → List Addr} (s : SimF c F H σ ρ fp) {i : Nat} {w w' : Ow} {a : Addr} {f' : List Addr} (he : ρ[i]? = some (.own w)) (hσ : σ[i]? = some (some (.ref a)))
    (hout : ∀ b, b ∉ fp i → b ∉ f' → H' b = H b) (hin : ∀ b ∈ fp i, H' b ≠ none) (hr : OwRep c.K F H' a f' w') (hnew : ∀ b ∈ f', b ∈ fp i ∨ (H b = none ∧ H' b ≠ none)) : Sim c F H' σ (ρ.set i (.own w')) := by
  have hi : i < ρ.length := (List.getElem?_eq_some_iff.mp he).1
  have own' : ∀ (j : Nat) (w1 : Ow), (ρ.set i (.own w'))[j]? = some (.own w1) → (j = i ∧ w1 = w') ∨ (j ≠ i ∧ ρ[j]? = some (.own w1)) := fun j w1 q => by
    by_cases z : j = i
    · subst z
      rw [List.getElem?_set_self hi] at q
      cases q
      exact .inl ⟨rfl, rfl⟩
    · rw [List.getElem?_set_ne (Ne.symm z)] at q
      exact .inr ⟨z, q⟩
  have Bn : ∀ b, H b = none → c.B b = none := fun b z => by
    cases q : c.B b with
    | none => rfl
    | some o => exact absurd z (s.dom b (by simp [q]))
  have nf : ∀ (j : Nat) (w1 : Ow) b, j ≠ i → ρ[j]? = some (.own w1) → b ∈ fp j → b ∉ fp i ∧ b ∉ f' := fun j w1 b z q m => by
    have h1 : b ∉ fp i := fun m' => z (s.sep j i w1 w b q he m m')
    refine ⟨h1, fun m' => ?_⟩
    rcases hnew b m' with z' | ⟨z', _⟩
    · exact h1 z'
    · exact (s.ownF j w1 b q m).2.1 z'
  refine ⟨fun j => if j = i then f' else fp j, s.f0, fun b o q => ?_, fun b o q w1 => ?_, fun b q => ?_, s.av, s.par, fun j d q => ?_, fun j w1 q => ?_, fun j w1 b q m => ?_, fun j k w1 w2 b q q' m m' => ?_, by simpa using s.len, fun j w1 b q m k hk => ?_, s.pb, s.tb, s.tw⟩
  · have h1 : b ∉ fp i := fun m => by rw [(s.ownF i w b he m).1] at q; cases q
    have h2 : b ∉ f' := fun m => by
      rcases hnew b m with z | ⟨z, _⟩
      · exact h1 z
      · rw [s.fh b o q] at z; cases z
    rw [hout b h1 h2]
    exact s.fh b o q
  · have h1 : b ∉ fp i := fun m => by
      rcases (s.ownF i w b he m).2.2 with z | z
      · rw [z] at q; cases q
      · exact w1 z
    have h2 : b ∉ f' := fun m => by
      rcases hnew b m with z | ⟨z, _⟩
      · exact h1 z
      · rw [Bn b z] at q; cases q
    rw [hout b h1 h2]
    exact s.keep b o q w1
  · by_cases h1 : b ∈ fp i
    · exact hin b h1
    · by_cases h2 : b ∈ f'
      · rcases hnew b h2 with z | ⟨_, z⟩
        · exact absurd z h1
        · exact z
      · rw [hout b h1 h2]
        exact s.dom b q
  · by_cases z : j = i
    · subst z
      rw [List.getElem?_set_self hi] at q
      cases q
    · rw [List.getElem?_set_ne (Ne.symm z)] at q
      exact s.dat j d q
  · rcases own' j w1 q with ⟨rfl, rfl⟩ | ⟨z, q⟩
    · exact ⟨a, hσ, by simpa using hr⟩
    · obtain ⟨b, k1, k2⟩ := s.own j w1 q
      refine ⟨b, k1, ?_⟩
      rw [if_neg z]
      exact k2.up (Same.refl _) fun x m => hout x (nf j w1 x z q m).1 (nf j w1 x z q m).2
  · rcases own' j w1 q with ⟨rfl, rfl⟩ | ⟨z, q⟩
    · have m : b ∈ f' := by simpa using m
      rcases hnew b m with z | ⟨z, z2⟩
      · obtain ⟨k1, k2, k3⟩ := s.ownF j w b he z
        exact ⟨k1, hin b z, k3⟩
      · exact ⟨freeF s.fh z, z2, .inl (Bn b z)⟩
    · have m : b ∈ fp j := by simpa [z] using m
      obtain ⟨k1, k2, k3⟩ := s.ownF j w1 b q m
      exact ⟨k1, by rw [hout b (nf j w1 b z q m).1 (nf j w1 b z q m).2]; exact k2, k3⟩
  · rcases own' j w1 q with ⟨rfl, rfl⟩ | ⟨z, q⟩
    · rcases own' k w2 q' with ⟨rfl, rfl⟩ | ⟨z', q'⟩
      · rfl
      · exact absurd (by simpa using m) (nf k w2 b z' q' (by simpa [z'] using m')).2
    · rcases own' k w2 q' with ⟨rfl, rfl⟩ | ⟨z', q'⟩
      · exact absurd (by simpa using m') (nf j w1 b z (by assumption) (by simpa [z] using m)).2
      · exact s.sep j k w1 w2 b q q' (by simpa [z] using m) (by simpa [z'] using m')
  · rcases own' j w1 q with ⟨rfl, rfl⟩ | ⟨z, q⟩
    · have m : b ∈ f' := by simpa using m
      rcases hnew b m with z | ⟨z, _⟩
      · exact s.wp j w b he z k hk
      · exact absurd (Bn b z) (s.pb k b hk)
    · exact s.wp j w1 b q (by simpa [z] using m) k hk
def keyD : D → Option Key
  | .int i => some (.inl i)
  | .str x => some (.inr x)
  | _ => none
theorem dp_key {F : Hp} {v : V} {k : Key} (h : Dx K F v (keyOf k)) : v = kV k := by
  cases k with
  | inl i => cases h; rfl
  | inr x => cases h; rfl
def valD (kvs : List (Key × D)) (k : Key) : Option D := (kvs.find? fun kv => decide (kv.1 = k)).map (·.2)
def putD (kvs : List (Key × D)) (k : Key) (d : D) : List (Key × D) := if (kvs.any fun kv => decide (kv.1 = k)) = true then kvs.map (fun kv => if kv.1 = k then (kv.1, d) else kv) else kvs ++ [(k, d)]
theorem kd_len {F : Hp} : ∀ {xs : List (Key × V)} {kvs : List (Key × D)}, KD K F xs kvs → xs.length = kvs.length
  | _, _, .nil => rfl
  | _, _, .cons _ t => by simp [kd_len t]
theorem kd_any {F : Hp} (k : Key) : ∀ {xs : List (Key × V)} {kvs : List (Key × D)}, KD K F xs kvs → (xs.any fun kv => decide (kv.1 = k)) = (kvs.any fun kv => decide (kv.1 = k))
  | _, _, .nil => rfl
  | _, _, .cons (a := p) (b := q) r t => by
    rw [List.any_cons, List.any_cons, kd_any k t, r.1]
theorem kd_val {F : Hp} (k : Key) : ∀ {xs : List (Key × V)} {kvs : List (Key × D)}, KD K F xs kvs → (valV xs k = none ∧ valD kvs k = none) ∨ ∃ v d, valV xs k = some v ∧ valD kvs k = some d ∧ Dx K F v d
  | _, _, .nil => .inl ⟨rfl, rfl⟩
  | _, _, .cons (a := p) (b := q) r t => by
    have ih := kd_val k t
    unfold valV valD at ih ⊢
    rw [List.find?_cons, List.find?_cons, r.1]
    by_cases e : q.1 = k
    · rw [decide_eq_true e]
      exact .inr ⟨p.2, q.2, rfl, rfl, r.2⟩
    · rw [decide_eq_false e]
      exact ih
theorem kd_map {F : Hp} (k : Key) {v : V} {d : D} (hv : Dx K F v d) : ∀ {xs : List (Key × V)} {kvs : List (Key × D)}, KD K F xs kvs → KD K F (xs.map fun kv => if kv.1 = k then (kv.1, v) else kv) (kvs.map fun kv => if kv.1 = k then (kv.1, d) else kv)
  | _, _, .nil => .nil
  | _, _, .cons (a := p) (b := q) r t => by
    refine .cons ?_ (kd_map k hv t)
    dsimp only
    rw [r.1]
    by_cases e : q.1 = k
    · rw [if_pos e, if_pos e]
      exact ⟨rfl, hv⟩
    · rw [if_neg e, if_neg e]
      exact r
theorem kd_app {F : Hp} : ∀ {xs ys : List (Key × V)} {kvs lvs : List (Key × D)}, KD K F xs kvs → KD K F ys lvs → KD K F (xs ++ ys) (kvs ++ lvs)
  | _, _, _, _, .nil, h => h
  | _, _, _, _, .cons r t, h => .cons r (kd_app t h)
theorem kd_put {F : Hp} {k : Key} {v : V} {d : D} (hv : Dx K F v d) {xs : List (Key × V)} {kvs : List (Key × D)} (h : KD K F xs kvs) : KD K F (putK xs k v) (putD kvs k d) := by
  unfold putK putD
  rw [kd_any k h]
  split
  · exact kd_map k hv h
  · exact kd_app h (.cons ⟨rfl, hv⟩ .nil)
theorem Sim.dkAt {c : Cc} {F H : Hp} {σ : L2.St} {ρ : Rho} (s : Sim c F H σ ρ) {i : Nat} {kvs : List (Key × D)} (he : ρ[i]? = some (.own (.dK kvs))) : ∃ a xs, σ[i]? = some (some (.ref a)) ∧ H a = some (.dK xs) ∧ KD c.K F xs kvs ∧ ∀ o w', OwRep c.K F (upd H a o) a [a] w' → Sim c F (upd H a o) σ (ρ.set i (.own w')) := by
  obtain ⟨fp, sf⟩ := s
  obtain ⟨a, e1, e2, xs, e3, e4⟩ := sf.own i _ he
  refine ⟨a, xs, e1, e3, e4, fun o w' hr => Sim.alter sf he e1 (fun b m _ => ?_) (fun b m => ?_) hr (fun b m => .inl (by rw [e2]; exact m))⟩
  · rw [upd_ne (fun z => m (by rw [e2, z]; simp))]
  · by_cases z : b = a
    · rw [z, upd_same]; simp
    · rw [upd_ne z]; exact (sf.ownF i _ b he m).2.1
section
variable {te ti : TE} {ρ ρ1 ρ2 : Rho} {d : D} {i : Nat} {k : Key} {P : Out → Prop} {kvs kvs0 : List (Key × D)}
/-- x = {} -/
theorem sv_newDict (h : P (.nx (ρ.set i (.own (.dK []))))) (hi : i < ρ.length) (hp : i ∉ g.ps) : Sv g (tAsg tDNewK (gName i)) ρ P := fun c F H σ E kk s p q hq => by
  obtain ⟨fp, sf⟩ := id s
  have hB : c.B q = none := by
    cases z : c.B q with
    | none => rfl
    | some u => exact absurd hq (sf.dom q (by simp [z]))
  have no : ∀ (j : Nat) (w : Ow), ρ[j]? = some (.own w) → q ∉ fp j := fun j w z m => (sf.ownF j w q z m).2.1 hq
  exact p.nx _ F (upd H q (.dK [])) _ h ((sf.other (freeF sf.fh hq) hB no).setOwn (f := [q]) ⟨rfl, [], upd_same, .nil⟩ (fun b m => by
    have z : b = q := by simpa using m
    subst z
    exact ⟨freeF sf.fh hq, by rw [upd_same]; simp, hB⟩) (fun j w' b z m => by
    have y : b = q := by simpa using m
    subst y
    exact no j w' z) hi (notP kk hp)) (Same.refl _)
theorem ed_din (hk : EvD g ti ρ (keyOf k) ρ1) (h1 : ρ1[i]? = some (.own (.dK kvs))) : EvD g (tDIn ti (tVar i)) ρ (.bool (valD kvs k).isSome) ρ1 := fun c F H σ kk s Q q => hk c F H σ kk s _ fun v F1 H1 s1 e1 x => by
  obtain ⟨a, xs, f1, f2, f3, _⟩ := s1.dkAt h1
  refine ⟨_, f1, a, valV xs k, rfl, ?_, ?_⟩
  · rw [dp_key x]
    exact DGet.k f2
  · rcases kd_val k f3 with ⟨z1, z2⟩ | ⟨v', d', z1, z2, _⟩ <;> rw [z1] <;> rw [z2] at q <;> exact q _ F1 H1 s1 e1 (.bl _)
theorem ed_dnotin (hk : EvD g ti ρ (keyOf k) ρ1) (h1 : ρ1[i]? = some (.own (.dK kvs))) : EvD g (tDNotIn ti (tVar i)) ρ (.bool (!(valD kvs k).isSome)) ρ1 := fun c F H σ kk s Q q => hk c F H σ kk s _ fun v F1 H1 s1 e1 x => by
  obtain ⟨a, xs, f1, f2, f3, _⟩ := s1.dkAt h1
  refine ⟨_, f1, a, valV xs k, rfl, ?_, ?_⟩
  · rw [dp_key x]
    exact DGet.k f2
  · rcases kd_val k f3 with ⟨z1, z2⟩ | ⟨v', d', z1, z2, _⟩ <;> rw [z1] <;> rw [z2] at q <;> exact q _ F1 H1 s1 e1 (.bl _)
theorem ed_dget (h0 : ρ[i]? = some (.own (.dK kvs0))) (hk : EvD g ti ρ (keyOf k) ρ1) (h1 : ρ1[i]? = some (.own (.dK kvs))) (hd : valD kvs k = some d) : EvD g (tDGet (tVar i) ti) ρ d ρ1 := fun c F H σ kk s Q q => by
  obtain ⟨a, xs, f1, f2, f3, _⟩ := s.dkAt h0
  refine ⟨_, f1, hk c F H σ kk s _ fun v F1 H1 s1 e1 x => ?_⟩
  obtain ⟨a', ys, g1, g2, g3, _⟩ := s1.dkAt h1
  have := some_inj2 f1 g1
  subst this
  rcases kd_val k g3 with ⟨z1, z2⟩ | ⟨v', d', z1, z2, z3⟩
  · rw [z2] at hd; cases hd
  · rw [hd] at z2
    cases z2
    refine ⟨a, v', rfl, ?_, q v' F1 H1 s1 e1 z3⟩
    rw [dp_key x, ← z1]
    exact DGet.k g2
theorem sv_dput (he : EvD g te ρ d ρ1) (h0 : ρ1[i]? = some (.own (.dK kvs0))) (hk : EvD g ti ρ1 (keyOf k) ρ2) (h1 : ρ2[i]? = some (.own (.dK kvs))) (hz : kvs.length < sizeLine) (h : P (.nx (ρ2.set i (.own (.dK (putD kvs k d)))))) :
    Sv g (sDPut (tVar i) ti te) ρ P := fun c F H σ E kk s p => he c F H σ kk.ok s _ fun v F1 H1 s1 e1 x => by
  obtain ⟨a, xs, f1, f2, f3, _⟩ := s1.dkAt h0
  refine ⟨_, f1, hk c F1 H1 σ kk.ok s1 _ fun u F2 H2 s2 e2 y => ?_⟩
  obtain ⟨a', ys, g1, g2, g3, g4⟩ := s2.dkAt h1
  have := some_inj2 f1 g1
  subst this
  refine ⟨a, _, rfl, by rw [dp_key y]; exact DPut.k g2 (by rw [kd_len g3]; exact hz), ?_⟩
  exact p.nx _ _ _ _ h (g4 _ _ ⟨rfl, _, upd_same, kd_put (dpUp e2 x) g3⟩) (e1.trans e2)
end
section
variable {te ti : TE} {ρ ρ1 ρ2 : Rho} {d : D} {i : Nat} {P : Out → Prop} {dss dss0 : List (List D)} {ds : List D}
/-- one own thing hidden: what is done then leaves it as it is -/
theorem SimF.hide {c : Cc} {F H : Hp} {σ : L2.St} {fp : Nat → List Addr} (s : SimF c F H σ ρ fp) (i : Nat) : SimF c F H σ (ρ.set i .no) fp := by
  have o' : ∀ (j : Nat) (w : Ow), (ρ.set i .no)[j]? = some (.own w) → j ≠ i ∧ ρ[j]? = some (.own w) := fun j w q => by
    by_cases z : j = i
    · subst z
      by_cases hl : j < ρ.length
      · rw [List.getElem?_set_self hl] at q; cases q
      · rw [List.getElem?_eq_none (by simpa using hl)] at q; cases q
    · rw [List.getElem?_set_ne (Ne.symm z)] at q; exact ⟨z, q⟩
  have d' : ∀ (j : Nat) (d : D), (ρ.set i .no)[j]? = some (.dat d) → ρ[j]? = some (.dat d) := fun j w q => by
    by_cases z : j = i
    · subst z
      by_cases hl : j < ρ.length
      · rw [List.getElem?_set_self hl] at q; cases q
      · rw [List.getElem?_eq_none (by simpa using hl)] at q; cases q
    · rw [List.getElem?_set_ne (Ne.symm z)] at q; exact q
  exact ⟨s.f0, s.fh, s.keep, s.dom, s.av, s.par, fun j d q => s.dat j d (d' j d q), fun j w q => s.own j w (o' j w q).2, fun j w b q => s.ownF j w b (o' j w q).2, fun j k w w' b q q' => s.sep j k w w' b (o' j w q).2 (o' k w' q').2, by simpa using s.len, fun j w b q => s.wp j w b (o' j w q).2, s.pb, s.tb, s.tw⟩
theorem hide_own {i j : Nat} {w : Ow} (q : (ρ.set i .no)[j]? = some (.own w)) : j ≠ i ∧ ρ[j]? = some (.own w) := by
  by_cases z : j = i
  · subst z
    by_cases hl : j < ρ.length
    · rw [List.getElem?_set_self hl] at q; cases q
    · rw [List.getElem?_eq_none (by simpa using hl)] at q; cases q
  · rw [List.getElem?_set_ne (Ne.symm z)] at q; exact ⟨z, q⟩
end
end DL
namespace DL
open PySem PySem.Spec PyProof.Rows L2
variable [TabC]
variable {K : PySem.W.Frag} {g : Gm} {X : Cx}
def lentE : Ent → Ent
  | .dat d => .dat d
  | .own (.lst ds) => .dat (.list ds)
  | .own (.lls dss) => .dat (.list (dss.map .list))
  | _ => .no
theorem lendF {c : Cc} {F H : Hp} {σ : L2.St} {ρ : Rho} {fp : Nat → List Addr} (s : SimF c F H σ ρ fp) : ∃ F', Same F F' ∧ Sim (c.re F' H noW) F' H σ (ρ.map lentE) := by
  classical
  let own1 : Addr → Prop := fun a => ∃ (i : Nat) (w : Ow), ρ[i]? = some (.own w) ∧ a ∈ fp i
  let F' : Hp := fun a => if own1 a then H a else F a
  have e1 : Same F F' := fun a o q => by
    have : ¬ own1 a := fun ⟨i, w, e, m⟩ => by rw [(s.ownF i w a e m).1] at q; cases q
    simp only [F', if_neg this]
    exact q
  have e2 : Same F' H := fun a o q => by
    by_cases z : own1 a
    · simpa [F', if_pos z] using q
    · simp only [F', if_neg z] at q
      exact s.fh a o q
  have at1 : ∀ a, own1 a → F' a = H a := fun a z => by simp only [F', if_pos z]
  have own0 : ∀ (i : Nat) (w : Ow), (ρ.map lentE)[i]? ≠ some (.own w) := fun i w q => by
    rw [List.getElem?_map] at q
    cases e : ρ[i]? with
    | none => rw [e] at q; cases q
    | some en =>
      rw [e] at q
      cases en with
      | no => cases q
      | dat d => cases q
      | own w' => cases w' <;> cases q
  refine ⟨F', e1, fun _ => [], Same.refl _, e2, fun a o q _ => q, fun a q => q, fun a _ q => q, s.par, fun i d q => ?_, fun i w q => (own0 i w q).elim, fun i w b q => (own0 i w q).elim, fun i j w w' b q => (own0 i w q).elim, by rw [List.length_map]; exact s.len, fun i w b q => (own0 i w q).elim, fun j b m => s.dom b (s.pb j b m), s.tabs, fun _ _ z => z⟩
  rw [List.getElem?_map] at q
  cases e : ρ[i]? with
  | none => rw [e] at q; cases q
  | some en =>
    rw [e] at q
    cases en with
    | no => cases q
    | dat d' =>
      cases q
      obtain ⟨v, h1, h2⟩ := s.dat i _ e
      exact ⟨v, h1, dpUp e1 h2⟩
    | own w =>
      obtain ⟨a, h1, h2⟩ := s.own i w e
      cases w with
      | lst ds =>
        cases q
        obtain ⟨e3, vs, h3, h4⟩ := h2
        exact ⟨_, h1, .lst (.inl (.inl (by rw [at1 a ⟨i, _, e, by rw [e3]; simp⟩]; exact h3))) (dpAllUp e1 h4)⟩
      | lls dss =>
        cases q
        obtain ⟨bs, e3, nd, h3, h4⟩ := h2
        refine ⟨_, h1, .lst (.inl (.inl (by rw [at1 a ⟨i, _, e, by rw [e3]; simp⟩]; exact h3))) ?_⟩
        have all : ∀ (bs' : List Addr) (dss' : List (List D)), (∀ b ∈ bs', b ∈ fp i) → Paired (fun b ds => ∃ vs, H b = some (.lst vs) ∧ DxAll c.K F vs ds) bs' dss' → DxAll c.K F' (bs'.map V.ref) (dss'.map .list) := by
          intro bs' dss' hm hp
          induction hp with
          | nil => exact .nil
          | cons r t ih =>
            obtain ⟨vs, k1, k2⟩ := r
            refine .cons (.lst (.inl (.inl ?_)) (dpAllUp e1 k2)) (ih fun b m => hm b (List.mem_cons_of_mem _ m))
            rw [at1 _ ⟨i, _, e, hm _ List.mem_cons_self⟩]
            exact k1
        exact all bs dss (fun b m => by rw [e3]; exact List.mem_cons_of_mem _ m) h4
      | dK kvs => cases q
      | dF kvs => cases q
/-- back: all stood as it was -/
theorem lendBack {c : Cc} {F H F' F2 H2 : Hp} {σ : L2.St} {ρ ρ' : Rho} {fp : Nat → List Addr} (s : SimF c F H σ ρ fp) (t : Sim (c.re F' H noW) F2 H2 σ ρ') : Sim c F H2 σ ρ := by
  obtain ⟨fp', t⟩ := t
  have k : ∀ a o, H a = some o → H2 a = some o := fun a o q => t.keep a o q id
  have ke : ∀ (i : Nat) (w : Ow) b, ρ[i]? = some (.own w) → b ∈ fp i → H2 b = H b := fun i w b q m => by
    cases z : H b with
    | none => exact absurd z (s.ownF i w b q m).2.1
    | some o => exact k b o z
  refine ⟨fp, s.f0, fun a o q => k a o (s.fh a o q), fun a o q w => k a o (s.keep a o q w), fun a q => t.dom a (s.dom a q), s.av, s.par, s.dat, fun i w q => ?_, fun i w b q m => ?_, s.sep, s.len, s.wp, s.pb, s.tb, s.tw⟩
  · obtain ⟨a, h1, h2⟩ := s.own i w q
    exact ⟨a, h1, h2.up (Same.refl _) fun b m => ke i w b q m⟩
  · obtain ⟨h1, h2, h3⟩ := s.ownF i w b q m
    exact ⟨h1, by rw [ke i w b q m]; exact h2, h3⟩
theorem et_lend {tt : TT} {ρ ρ' : Rho} {b : Bool} (h : EvT g tt (ρ.map lentE) b ρ') : EvT g tt ρ b ρ := fun c F H σ k s Q q => by
  obtain ⟨fp, sf⟩ := s
  obtain ⟨F', e, s'⟩ := lendF sf
  exact h (c.re F' H noW) F' H σ k s' Q fun F2 H2 s2 _ => q F H2 (lendBack sf s2) (Same.refl _)
inductive RetX where
  | ok (r : RetV)
  | exc (C : Addr)
def RxOk (K : PySem.W.Frag) (F H : Hp) (Q : VK) (E : XK) : RetX → Prop
  | .ok r => ∀ v F' H', Sim ⟨K, [], noW, F, H⟩ F' H' [] [] → RetOk ⟨K, [], noW, F, H⟩ F' H' v r → Q v H'
  | .exc C => ∀ F' H', Sim ⟨K, [], noW, F, H⟩ F' H' [] [] → E (.ref C) none H'
def spX (R : List D → RetX → Prop) (K : PySem.W.Frag) : Sp := fun vs H Q E => ∃ F ds r, SameT F H ∧ DxAll K F vs ds ∧ R ds r ∧ RxOk K F H Q E r
/-- raise C('..') -/
def tRaiseO (C : Addr) (E : XK) : TS := fun _ _ H => E (.ref C) none H
theorem sv_raise {ρ : Rho} {C : Addr} {P : Out → Prop} (h : P (.ex C ρ)) : Sv g (tRaiseO C g.xe) ρ P := fun c F H σ E k s p => p.ex _ _ _ _ _ h s (Same.refl _)
def RetXP (r : RetX) : Out → Prop
  | .nx _ => r = .ok (.dat .none)
  | .rt _ r' => r = .ok r'
  | .ex C _ => r = .exc C
  | _ => False
theorem body_X {t : TS} {N : List Str} {vs : List V} {ds : List D} {F H : Hp} {r : RetX} {Q : VK} {E : XK} (e : SameT F H) (h : DxAll K F vs ds) (hb : Sv ⟨K, [], E⟩ t (rho0 N (ds.map .dat)) (RetXP r))
    (q : RxOk K F H Q E r) : t { nx := fun _ H' => Q .non H', rt := Q } (L2.start N vs) H :=
  hb ⟨K, [], noW, F, H⟩ F H _ _ ⟨⟨rfl, rfl⟩, fun a z => z.elim⟩ (sim_start e h)
    ⟨fun ρ F' H' σ z s e => by
      have z : r = .ok (.dat .none) := z
      subst z
      exact q _ F' H' (s.cut rfl) Dx.non, fun ρ F' H' σ v r' z s e x => by
      have z : r = .ok r' := z
      subst z
      exact q v F' H' (s.cut rfl) x, fun _ _ _ _ z => z.elim, fun _ _ _ _ z => z.elim, fun ρ F' H' σ C z s e => by
      have z : r = .exc C := z
      subst z
      exact q F' H' (s.cut rfl)⟩
section
variable {P : Program} {w : World} {mg : Str → Option Value} {base : Heap} {x qual : Str} {st : Stmt} {f : Addr} {fd : FuncData} {N ps : List Str} {k : Nat}
theorem def_X {R : List D → RetX → Prop} (Fn : Fun K x qual st f fd) (S : FnScope N ps (defScope st)) (len : ∀ ds r, R ds r → ds.length = ps.length) {t : XK → TS}
    (ht : ∀ (cdv : Value) (A : Around) (outer : List PySem.Env) (s : Shared) (H : Hp) (E : XK), Room k (A.deeper (envOfC qual (defScope st) s.heap.objs.size f cdv)) → PSs (cxOf (L2.CX P w) P w K mg base N qual (defScope st) f cdv A outer s H E) (defBody st) (t E))
    (hv : ∀ ds r E, R ds r → Sv ⟨K, [], E⟩ (t E) (rho0 N (ds.map .dat)) (RetXP r)) : FnOk P w K mg base (L2.CX P w) (k + 1) f fd ps (spX R K) := by
  refine Fn.okX S (fun vs H Q E h => ?_) (fun cdv A outer s H vs Q E hr h => ?_)
  · obtain ⟨F, ds, r, _, h1, h2, _⟩ := h
    rw [dpAllLen h1]
    exact len ds r h2
  · obtain ⟨F, ds, r, e, h1, h2, q⟩ := h
    exact ⟨t E, ht cdv A outer s H E hr, body_X e h1 (hv ds r E h2) q⟩
end
/-- nothing is let out where it is not wished -/
theorem passX {P : Program} {w : World} (hP : X.prog = P) (hw : X.w = w) : Passes (L2.CX P w) X E0 := fun _ _ _ _ _ _ _ ⟨_, _, _, _, _, _, _, _, _, _, _, _, z⟩ => z.elim
section
variable {t : TA} {ρ ρ1 : Rho} {As : List Arg} {ds : List D} {d : D} {E : XK}
/-- a call that gives a value -/
theorem ed_callX {R : List D → RetX → Prop} (ha : EvA g t ρ As ρ1) (hR : R ds (.ok (.dat d))) (hd : datas As = some ds := by rfl) : EvD g (tCall (spX R g.K) [] E t) ρ d ρ1 := fun c F H σ k s Q q =>
  ha c F H σ k s _ fun vs F1 H1 s1 e1 h1 => by
    have kk : c.K = g.K := k.1
    obtain ⟨fp, sf⟩ := id s1
    rw [List.append_nil, ← kk]
    refine ⟨F1, ds, .ok (.dat d), s1.ft, h1.datas hd, hR, fun v F' H' t r => ?_⟩
    have t' := sf.after t
    exact q v F' H' ⟨fp, t'⟩ (e1.trans t.f0) r
/-- try: f(..) except C as e: suite -/
def tTryCall (R : List D → RetX → Prop) (K : PySem.W.Frag) (c : Value) (i : Nat) (ts : Addr → Value → Option Addr → TS) (t : TA) : TS := fun D σ H => tDrop (tCallS (spX R K) (WE (wAs K c i ts (fun _ _ _ _ => False) D)) t) D σ H
theorem sv_tryOk {R : List D → RetX → Prop} {cv : Value} {i : Nat} {ts : Addr → Value → Option Addr → TS} {P : Out → Prop} (ha : EvA g t ρ As ρ1) (hR : R ds (.ok (.dat d))) (hd : datas As = some ds) (h : P (.nx ρ1)) : Sv g (tTryCall R g.K cv i ts t) ρ P := fun c F H σ D k s p =>
  ha c F H σ k.ok s _ fun vs F1 H1 s1 e1 h1 => by
    have kk : c.K = g.K := k.ok.1
    obtain ⟨fp, sf⟩ := id s1
    rw [← kk]
    refine ⟨F1, ds, .ok (.dat d), s1.ft, h1.datas hd, hR, fun v F' H' t r => ?_⟩
    exact p.nx _ F' H' σ h ⟨fp, sf.after t⟩ (e1.trans t.f0)
/-- .. the suite gives a truth value back -/
theorem sv_tryEx {R : List D → RetX → Prop} {cv : Value} {i : Nat} {ts : Addr → Value → Option Addr → TS} {P : Out → Prop} {C : Addr} {b : Bool} (ha : EvA g t ρ As ρ1) (hR : R ds (.exc C)) (hd : datas As = some ds) (hc : PySem.W.exmOne g.K (.ref C) cv = some true)
    (hs : ∀ (a : Addr) (σ : L2.St) (H : Hp) (D : Ends), σ[i]? = some (some (.ref a)) → (∀ H', Same H H' → D.rt (.bl b) H') → ts a (.ref C) none D σ H) (hi : i < ρ1.length) (h : P (.rt ρ1 (.dat (.bool b)))) : Sv g (tTryCall R g.K cv i ts t) ρ P := fun c F H σ D k s p =>
  ha c F H σ k.ok s _ fun vs F1 H1 s1 e1 h1 => by
    have kk : c.K = g.K := k.ok.1
    obtain ⟨fp, sf⟩ := id s1
    rw [← kk] at hc ⊢
    refine ⟨F1, ds, .exc C, s1.ft, h1.datas hd, hR, fun F' H' t => ⟨true, hc, fun _ a na => ?_, fun z => nomatch z⟩⟩
    have t' := sf.after t
    refine hs a (σ.set i (some (.ref a))) H' _ (List.getElem?_set_self (by rw [t'.len]; exact hi)) fun H2 e2 => ?_
    have t3 : Sim c F' H2 σ ρ1 := by
      refine ⟨fp, t'.f0, t'.fh.trans e2, fun a o q w => e2 a o (t'.keep a o q w), fun a q => ?_, t'.av, t'.par, t'.dat, fun j w q => ?_, fun j w b q m => ?_, t'.sep, t'.len, t'.wp, t'.pb, t'.tb, t'.tw⟩
      · cases z : H' a with
        | none => exact absurd z (t'.dom a q)
        | some o => rw [e2 a o z]; simp
      · obtain ⟨a, k1, k2⟩ := t'.own j w q
        refine ⟨a, k1, k2.up (Same.refl _) fun b m => ?_⟩
        cases z : H' b with
        | none => exact absurd z (t'.ownF j w b q m).2.1
        | some o => rw [e2 b o z]
      · obtain ⟨k1, k2, k3⟩ := t'.ownF j w b q m
        refine ⟨k1, ?_, k3⟩
        cases z : H' b with
        | none => exact absurd z k2
        | some o => rw [e2 b o z]; simp
    exact p.rt _ F' H2 σ _ _ h t3 (e1.trans t.f0) (.bl b)
end
/-- of a class, of a tuple of classes -/
def rIsX (K : PySem.W.Frag) (a : Addr) (cls : Value) (d : Option Addr) : List V → Hp → VK → Prop := fun xs H Q => ∃ Da, cls = .ref Da ∧ d = none ∧ ExcC K Da ∧
  ((∃ (c : Addr) (b : Bool), xs = [.ref a, .ref c] ∧ PySem.W.kitOne K (.ref Da) (.ref c) = some b ∧ Q (.bl b) H) ∨
    ∃ (tp : Addr) (cs : List Addr) (b : Bool), xs = [.ref a, .ref tp] ∧ H tp = some (.tup (cs.map V.ref)) ∧ PySem.W.kitAny K (.ref Da) (cs.map Value.ref) = some b ∧ Q (.bl b) H)
theorem valsRefs : ∀ {cs : List Addr} {us : List Value}, Vals (cs.map V.ref) us → us = cs.map Value.ref
  | [], _, .nil => rfl
  | c :: cs, _, .cons r t => by
    cases r
    rw [valsRefs t]
    rfl
theorem cr_isX {a : Addr} {oe : Obj} {cls : Value} {d : Option Addr} {pn : List (Addr × Obj)} (hz : Zc cls d oe) (hf : ∃ vs, oe.data = .fields vs) : CallR (X.suite a ((a, oe) :: pn)) (.builtin "isinstance") (rIsX X.K a cls d) := by
  intro pins s σ H xs us Q I r h
  obtain ⟨Da, rfl, rfl, C, h⟩ := h
  rcases h with ⟨c, b, rfl, e, q⟩ | ⟨tp, cs, b, rfl, hT, e, q⟩
  · exact call_isE C hz hf pins s σ H _ us Q I r ⟨.ref c, .ref c, b, rfl, fun u z => z, e, q⟩
  · obtain ⟨u1, u2, rfl, r1, r2⟩ := vals2 r
    cases r1
    cases r2
    obtain ⟨hget, _⟩ := I.pin (a, oe) (List.mem_append.mpr (.inl List.mem_cons_self))
    obtain ⟨vs, hv⟩ := hf
    have J : PySem.W.InstAt s.heap a oe Da none := by
      obtain ⟨oc, od, oda, osl⟩ := oe
      obtain ⟨h1, h2⟩ := hz
      dsimp only at h1 h2 hv
      subst h1 h2 hv
      exact ⟨hget, rfl, rfl, trivial⟩
    obtain ⟨_, its, rv, o, h1, h2, n, h3⟩ := (show ObjOk X.prog X.w H s.heap tp (.tup (cs.map V.ref)) from I.hok tp _ hT)
    have e3 := valsRefs rv
    subst e3
    obtain ⟨oc, od, dt, sl⟩ := o
    simp only at h2 h3
    subst h2 h3
    exact PySem.W.kia_tup (PySem.W.handS_kitx_exc C.hg C.hk C.hs C.hd C.ha C.hn C.ht C.hm) I.kIn J h1 e (fun z => nomatch z) fun tk => ⟨.bl b, H, I.kept (t' := tk) fun _ _ z => z, rfl, q⟩
def tRefs : List Addr → TA
  | [] => tNil
  | c :: cs => tCons (tC (.ref c)) (tRefs cs)
theorem tRefs_ok : ∀ (cs : List Addr) (σ : L2.St) (H : Hp) (Q : List V → Hp → Prop), Q (cs.map V.ref) H → tRefs cs σ H Q
  | [], σ, H, Q, h => h
  | c :: cs, σ, H, Q, h => tRefs_ok cs σ H _ h
/-- return isinstance(e, S) and (not isinstance(e, (T, ..))) -/
def tSuite (K : PySem.W.Frag) (i : Nat) (S : Addr) (cs : List Addr) : Addr → Value → Option Addr → TS := fun a cls d =>
  tRet (tAndV (tCB (rIsX K a cls d) (tCons (tVar i) (tCons (tC (.ref S)) tNil))) (tNotV (tCB (rIsX K a cls d) (tCons (tVar i) (tCons (tTup (tRefs cs)) tNil)))))
theorem suite_ok {i : Nat} {S C : Addr} {cs : List Addr} (hC : ExcC K C) (h1 : PySem.W.kitOne K (.ref C) (.ref S) = some true) (h2 : PySem.W.kitAny K (.ref C) (cs.map Value.ref) = some false) (hz : cs.length ≤ sizeLine) (a : Addr) (σ : L2.St) (H : Hp) (D : Ends)
    (hσ : σ[i]? = some (some (.ref a))) (q : ∀ H', Same H H' → D.rt (.bl true) H') : tSuite K i S cs a (.ref C) none D σ H := by
  refine ⟨_, hσ, C, rfl, rfl, hC, .inl ⟨S, true, rfl, h1, true, rfl, ?_⟩⟩
  rw [if_pos rfl]
  refine ⟨_, hσ, tRefs_ok cs σ H _ ⟨by rw [List.length_map]; exact hz, fun p hp => ?_⟩⟩
  exact ⟨C, rfl, rfl, hC, .inr ⟨p, cs, false, rfl, upd_same, h2, false, rfl, q _ (sameNew hp)⟩⟩
end DL
namespace DL
open PySem PySem.Spec PyProof.Rows L2
variable [TabC]
variable {K : PySem.W.Frag} {g : Gm}
theorem kd_get {F : Hp} : ∀ {xs : List (Key × V)} {kvs : List (Key × D)} {i : Nat} {k : Key} {v : V}, KD K F xs kvs → xs[i]? = some (k, v) → ∃ d, kvs[i]? = some (k, d) ∧ Dx K F v d
  | _, _, _, _, _, .nil, e => by simp at e
  | _, _, 0, k, v, .cons (a := p) (b := q) r t, e => by
    have e' : p = (k, v) := by simpa using e
    subst e'
    obtain ⟨k', d⟩ := q
    obtain ⟨r1, r2⟩ := r
    dsimp only at r1 r2
    subst r1
    exact ⟨d, rfl, r2⟩
  | _, _, i + 1, k, v, .cons _ t, e => by
    obtain ⟨d, h1, h2⟩ := kd_get (i := i) t (by simpa using e)
    exact ⟨d, by simpa using h1, h2⟩
end DL
namespace DL
open PySem PySem.Spec PyProof.Rows L2
variable [TabC]
variable {X : Cx}
theorem pe_cI {x : Str} {n : Int} {pos : Pos} (hg : Gl X x) (hm : ∃ t, X.mg x = some (.int n t)) (hd : (x == ("__debug__" : Str)) = false := by decide) : PE X (.Name x pos) (tC (.int n)) := by
  obtain ⟨t, h⟩ := hm
  exact pe_glob hg h ⟨t, rfl⟩ hd
end DL
namespace DL
open PySem PySem.Spec PyProof.Rows L2
variable [TabC]
/-- rows that nobody else holds become data -/
theorem freezeAll {c : Cc} {H : Hp} {σ : L2.St} {ρ : Rho} {fp : Nat → List Addr} : ∀ (bs : List Addr) (dss : List (List D)) (F : Hp), bs.Nodup → (∀ b ∈ bs, F b = none ∧ c.B b = none ∧ ∀ (i : Nat) (w : Ow), ρ[i]? = some (.own w) → b ∉ fp i) →
    Paired (fun b ds => ∃ vs, H b = some (.lst vs) ∧ DxAll c.K F vs ds) bs dss → SimF c F H σ ρ fp → ∃ F', Same F F' ∧ SimF c F' H σ ρ fp ∧ (∀ x, x ∉ bs → F' x = F x) ∧ DxAll c.K F' (bs.map V.ref) (dss.map .list)
  | [], _, F, _, _, .nil, s => ⟨F, Same.refl _, s, fun _ _ => rfl, .nil⟩
  | b :: bs, ds :: dss, F, nd, h, .cons ⟨vs, h1, h2⟩ t, s => by
    obtain ⟨nb, nd'⟩ := List.nodup_cons.mp nd
    obtain ⟨k1, k2, k3⟩ := h b List.mem_cons_self
    have e1 : Same F (upd F b (.lst vs)) := sameNew k1
    have s1 := s.freeze h1 k2 k3 k1
    obtain ⟨F', e2, s2, o2, d2⟩ := freezeAll bs dss (upd F b (.lst vs)) nd' (fun b' m => by
      obtain ⟨j1, j2, j3⟩ := h b' (List.mem_cons_of_mem _ m)
      exact ⟨by rw [upd_ne (fun z => nb (by rw [← z]; exact m))]; exact j1, j2, j3⟩) (pairedMap t fun z y _ ⟨us, q1, q2⟩ => ⟨us, q1, dpAllUp e1 q2⟩) s1
    refine ⟨F', e1.trans e2, s2, fun x m => ?_, .cons (.lst (.inl (.inl ?_)) (dpAllUp (e1.trans e2) h2)) d2⟩
    · rw [o2 x (fun z => m (List.mem_cons_of_mem _ z)), upd_ne (fun z => m (by rw [z]; exact List.mem_cons_self))]
    · rw [o2 b nb]
      exact upd_same
/-- new rows become data -/
theorem ed_ofWl {g : Gm} {te : TE} {ρ ρ1 : Rho} {dss : List (List D)} (h : EvW g te ρ (.lls dss) ρ1) : EvD g te ρ (.list (dss.map .list)) ρ1 := fun c F H σ k s Q q => h c F H σ k s _ fun a F' H' ⟨f, fp, s', hr, hf, no⟩ e => by
  obtain ⟨bs, rfl, nd, h1, h2⟩ := hr
  obtain ⟨na, nd'⟩ := List.nodup_cons.mp nd
  obtain ⟨F2, e2, s2, o2, d2⟩ := freezeAll bs dss F' nd' (fun b m => by
    obtain ⟨j1, j2, j3⟩ := hf b (List.mem_cons_of_mem _ m)
    exact ⟨j1, j3, fun i w q z => no i w b q (List.mem_cons_of_mem _ m) z⟩) h2 s'
  obtain ⟨k1, k2, k3⟩ := hf a List.mem_cons_self
  have k1' : F2 a = none := by rw [o2 a na]; exact k1
  have e3 : Same F2 (upd F2 a (.lst (bs.map V.ref))) := sameNew k1'
  exact q _ _ H' ⟨fp, s2.freeze h1 k3 (fun i w z m => no i w a z List.mem_cons_self m) k1'⟩ (e.trans (e2.trans e3)) (.lst (.inl (.inl upd_same)) (dpAllUp e3 d2))
end DL
namespace DL
open PySem PySem.Spec PyProof.Rows L2
variable [TabC]
structure FnG (P : Program) (w : World) (K : PySem.W.Frag) (mg : Str → Option Value) (base : Heap) (C : CXT) (k : Nat) (f : Addr) (fd : FuncData) (ps : List Str) (sp : Sp) : Prop where
  ar : ∀ vs H Q E, sp vs H Q E → vs.length = ps.length
  go : ∀ A : Around, A.guards = some [] → Room k A → ∀ (o : List PySem.Env) (s : Shared) (H : Hp) (args : Args) (us : List Value) (vs : List V) (Q : VK) (E : XK),
    Env0 P w K mg base A o s H → BindsTo s fd args (ps.zip us) → Vals vs us → sp vs H Q E → codeAny (model P w) A (.call (.ref f) args) (CR C o P w H s Q E) s
section
variable {P : Program} {w : World} {K : PySem.W.Frag} {mg : Str → Option Value} {base : Heap} {C : CXT} {k : Nat} {f : Addr} {fd : FuncData} {ps : List Str} {sp : Sp}
theorem def_G {x qual : Str} {st : Stmt} {N : List Str} (Fn : Fun K x qual st f fd) (S : FnScope N ps (defScope st)) (ar : ∀ vs H Q E, sp vs H Q E → vs.length = ps.length)
    (hb : ∀ (cdv : Value) (A : Around) (o : List PySem.Env) (s : Shared) (H : Hp) (vs : List V) (Q : VK) (E : XK), A.guards = some [] → Room k (A.deeper (envOfC qual (defScope st) s.heap.objs.size f cdv)) → sp vs H Q E →
      ∃ t, PSs (cxOf C P w K mg base N qual (defScope st) f cdv A o s H E) (defBody st) t ∧ t { nx := fun _ H' => Q .non H', rt := Q } (start N vs) H) :
    FnG P w K mg base C (k + 1) f fd ps sp := by
  obtain ⟨oc, od, kV, doc, pm, an, cdv, ct, osl, rfl, lk, hcd⟩ := Fn.ex
  constructor
  · exact ar
  intro A gA hr o s H args us vs Q E e0 bd rv hs
  have kept := fun b o e => (e0.bs b o e).1
  have inK : K.In s.heap := e0.mod.kin.keeps kept
  refine codeAny_call_function hr.depth (inK _ _ lk) rfl S.co S.gen rfl (PySem.W.codeRec_of inK hcd) (bd _ _ _ _ ?_)
  refine wpAny_newFunctionEnv_cells S.kind ?_ ?_
  · rintro ⟨n, v⟩ m
    cases S.par n (List.of_mem_zip m).1 with
    | inl q => exact Or.inl q
    | inr q => exact Or.inr ⟨q, PySem.W.cellsFrom_some _ _ _ (Or.inl q)⟩
  · rintro env rfl s1 x
    refine ⟨(e0.mod.nolimit.keeps kept).keeps x.toInCall.keep, codeAny_func ?_⟩
    obtain ⟨t, ht, hq⟩ := hb cdv A o s H vs Q E gA (hr.deeper _) hs
    refine wpAny_mono (ht.run [] s1 (start N vs) H _ (inv_start S hr.hd e0 (ar _ _ _ _ hs) rv x) hq) ?_ (fun _ _ z => z)
    intro fl s' z
    cases fl with
    | brk => obtain ⟨_, _, _, no⟩ := z; exact no.elim
    | cont => obtain ⟨_, _, _, no⟩ := z; exact no.elim
    | next =>
      obtain ⟨σ', H', J, q⟩ := z
      exact ⟨.non, H', J.os, J.bare, J.base, J.hok, rfl, q⟩
    | ret u =>
      obtain ⟨v, σ', H', J, r, q⟩ := z
      exact ⟨v, H', J.os, J.bare, J.base, J.hok, r, q⟩
end
section
variable {X : Cx} {C : CXT} {k : Nat} {f : Addr} {fd : FuncData} {ps : List Str} {sp : Sp} {dvs : List V} {ds : List Value} {E : XK} {x : Str} {p pos : Pos} {e : Expr} {es : List Expr} {t : TA}
/-- f(e, ..) of such a def -/
theorem pe_callG (F : FnG X.prog X.w X.K X.mg X.base C k f fd ps sp) (gA : X.A.guards = some []) (hr : Room k X.A) (hg : Gl X x) (hm : X.mg x = some (.ref f)) (hk : PySem.W.keepIn X.K (.ref f) = true) (hb : Binds X.K fd ps ds) (hd : Vals dvs ds) (hx : Passes C X E)
    (ha : PA X (e :: es) t) (h1 : (x == ("__debug__" : Str)) = false := by decide) (h2 : starEach (e :: es) X.env = (false, eval e X.env) :: starEach es X.env := by rfl) (h3 : (backTo pos (starEach es X.env)).any (·.1) = false := by rfl) :
    PE X (.Call (.Name x p) (e :: es) [] pos) (tCall sp dvs E t) := by
  constructor
  intro pins s σ H Q I h
  apply wpAny_Call_Name_kw
  refine ld_glob I hg hm ?_ h1
  apply PySem.W.callWith_K (h₀ := X.base) I.ok.mod.kin hk ?_ h2 h3
  refine thn (ha.run pos pins s σ H _ I h) ?_
  rintro us s1 ⟨vs, H1, J, r, q⟩
  refine ⟨J.kIn, ?_⟩
  have rr := r.append hd
  have ll : (us ++ ds).length = ps.length := rr.length.symm.trans (F.ar _ _ _ _ q)
  apply wpAny_call
  refine codeAny_mono (F.go X.A gA hr X.stack s1 H1 ⟨us, []⟩ (us ++ ds) (vs ++ dvs) Q E J.env0 (hb s1 us J.kIn ll) rr q) ?_
  intro out s' z
  cases out with
  | error er => exact hx pins σ H1 s1 er s' J z
  | ok fl =>
    cases fl with
    | ret u => exact J.after z
    | next => exact z.elim
    | brk => exact z.elim
    | cont => exact z.elim
end
end DL
namespace DL
open PySem PySem.Spec PyProof.Rows L2
end DL
namespace DL
open PySem PySem.Spec PyProof.Rows L2
variable [TabC]
def rReprD (K : PySem.W.Frag) : List V → Hp → VK → Prop := fun xs H Q => ∃ (a : Addr) (d : D), xs = [.ref a] ∧ Dx K H (.ref a) d ∧ d.showable = true ∧ d.hasDict = false ∧ d.depth ≤ 64 ∧ d.shown.length ≤ sizeLine ∧ Q (.str d.shown) H
theorem cr_repr {X : Cx} (gA : X.A.guards = some []) (hu : X.A.units + 70 < cLine) : CallR X (.builtin "repr") (rReprD X.K) := by
  intro pins s σ H xs us Q I r h
  obtain ⟨a, d, rfl, hd, h1, h2, h3, h4, q⟩ := h
  rw [Vals.ref1 r]
  obtain ⟨as, rd⟩ := L2.Dp.reads I d (.ref a) (.ref a) (hd.old h2) rfl
  exact repr_of_reads' rd h1 (fun z => by rw [h2] at z; cases z) gA (by omega) (fun _ _ z => z) (fun h' u tk hk => ⟨.str d.shown, H, I.kept hk, ⟨u, rfl⟩, q⟩) h4
theorem rc_repr {K : PySem.W.Frag} {d : D} (hl : (∃ ds, d = .list ds) ∨ ∃ ds, d = .tuple ds) (h1 : d.showable = true) (h2 : d.hasDict = false) (h3 : d.depth ≤ 64) (h4 : d.shown.length ≤ sizeLine) : RCD K (rReprD K) [d] (.str d.shown) := fun F H xs Q f a q => by
  obtain ⟨v, rfl, a1⟩ := a.one
  have x := a1.dp f
  have : ∃ b, v = .ref b := by
    rcases hl with ⟨ds, rfl⟩ | ⟨ds, rfl⟩
    · cases x with
      | lst h _ => exact ⟨_, rfl⟩
    · cases x with
      | tup h _ => exact ⟨_, rfl⟩
  obtain ⟨b, rfl⟩ := this
  exact ⟨b, d, rfl, x, h1, h2, h3, h4, q _ F H (.at (.str _))⟩
end DL
namespace DL
open PySem PySem.Spec PyProof.Rows L2
variable [TabC]
section
variable {P : Program} {w : World} {K : PySem.W.Frag} {mg : Str → Option Value} {base : Heap} {k : Nat} {f : Addr} {fd : FuncData} {N ps : List Str} {x qual : Str} {st : Stmt}
theorem def_DG {R : List D → RetV → Prop} (Fn : Fun K x qual st f fd) (S : FnScope N ps (defScope st)) (len : ∀ ds r, R ds r → ds.length = ps.length) {t : TS}
    (ht : ∀ (cdv : Value) (A : Around) (outer : List PySem.Env) (s : Shared) (H : Hp) (E : XK), A.guards = some [] → Room k (A.deeper (envOfC qual (defScope st) s.heap.objs.size f cdv)) → PSs (cxOf CX0 P w K mg base N qual (defScope st) f cdv A outer s H E).nox (defBody st) t)
    (hv : ∀ ds r, R ds r → Sv (gm K []) t (rho0 N (ds.map .dat)) (RetP r)) : FnG P w K mg base CX0 (k + 1) f fd ps (spD R K) := by
  refine def_G Fn S (fun vs H Q E h => ?_) (fun cdv A outer s H vs Q E gA hr h => ?_)
  · obtain ⟨F, ds, r, _, h1, h2, _⟩ := h
    rw [dpAllLen h1]
    exact len ds r h2
  · obtain ⟨F, ds, r, e, h1, h2, q⟩ := h
    exact ⟨t, (ht cdv A outer s H E gA hr).nox, body_D e h1 (hv ds r h2) q⟩
end
section
variable {g : Gm} {to te ti : TE} {tr : TA} {ρ ρ1 ρ2 : Rho} {d z : D} {As : List Arg} {ds ds0 : List D} {i : Nat} {P : Out → Prop}
/-- o.m(..), o data that is a list or a text -/
theorem ed_bm {T : String} {r : V → List V → Hp → VK → Prop} (ho : EvD g to ρ d ρ1) (ha : EvA g tr ρ1 As ρ2) (hT : TyD T d) (hr : RMD g.K r d ds z) (dA : dens ρ2 As = some ds := by rfl) : EvD g (tBM g.K T r to tr) ρ z ρ2 := fun c F H σ k s Q q =>
  ho c F H σ k s _ fun v F1 H1 s1 e1 x => by
    have kk : c.K = g.K := k.1
    refine ⟨tyD_v s1.fh (.inl (by rw [← kk]; exact x)) hT, ha c F1 H1 σ k s1 _ fun vs F2 H2 s2 e2 h2 => ?_⟩
    have o2 := ArgsAt.opds s2 h2 dA
    rw [kk] at o2
    refine hr F2 H2 v vs Q s2.fh (.inl (by rw [← kk]; exact dpUp e2 x)) o2 fun u F3 H3 rs => ?_
    rw [← kk] at rs
    obtain ⟨s3, e3, q3⟩ := rs.sim s2
    exact q u F3 H3 s3 (e1.trans (e2.trans e3)) q3
/-- t.m(..), t a tuple -/
theorem ed_bmX {r : V → List V → Hp → VK → Prop} {es : List D} (ho : EvD g to ρ (.tuple es) ρ1) (ha : EvA g tr ρ1 As ρ2) (hr : RMD g.K r (.tuple es) ds z) (dA : dens ρ2 As = some ds := by rfl) : EvD g (tBMX g.K r to tr) ρ z ρ2 := fun c F H σ k s Q q =>
  ho c F H σ k s _ fun v F1 H1 s1 e1 x => by
    have kk : c.K = g.K := k.1
    rw [kk] at x
    obtain ⟨a, xs, rfl, tx, _⟩ := Opd.tupX s1.fh (.inl x)
    refine ⟨⟨a, xs, rfl, tx⟩, ha c F1 H1 σ k s1 _ fun vs F2 H2 s2 e2 h2 => ?_⟩
    have o2 := ArgsAt.opds s2 h2 dA
    rw [kk] at o2
    refine hr F2 H2 (.ref a) vs Q s2.fh (.inl (dpUp e2 x)) o2 fun u F3 H3 rs => ?_
    rw [← kk] at rs
    obtain ⟨s3, e3, q3⟩ := rs.sim s2
    exact q u F3 H3 s3 (e1.trans (e2.trans e3)) q3
/-- x.pop(e), x an own list -/
theorem ed_popAt {n : Int} {j : Nat} (h0 : ρ[i]? = some (.own (.lst ds0))) (hi : EvD g ti ρ (.int n) ρ1) (h1 : ρ1[i]? = some (.own (.lst ds))) (hb : -(2 ^ 63) ≤ n ∧ n < 2 ^ 63) (hj : seqIndex? n ds.length = some j) (hd : ds[j]? = some d) :
    EvD g (tBM g.K "list" rPopAt (tVar i) (tCons ti tNil)) ρ d (ρ1.set i (.own (.lst (ds.eraseIdx j)))) := fun c F H σ k s Q q => by
  obtain ⟨a, vs, e1, e2, e3, e4⟩ := s.lstAt h0
  refine ⟨.ref a, e1, .inl ⟨rfl, vs, .inl (.inl e2)⟩, hi c F H σ k s _ fun v F1 H1 s1 q1 x => ?_⟩
  cases x
  obtain ⟨b, ws, f1, f2, f3, f4⟩ := s1.lstAt h1
  have := some_inj2 e1 f1
  subst this
  obtain ⟨y, y1, y2⟩ := dpAllGet f4 hd
  refine ⟨a, ws, n, j, y, rfl, rfl, f2, hb.1, hb.2, by rw [dpAllLen f4]; exact hj, y1, ?_⟩
  exact q y F1 _ (s1.setLst h1 f1 (dpAllErase j f4)) q1 y2
where
  dpAllErase {K : PySem.W.Frag} {F : Hp} : ∀ (j : Nat) {vs : List V} {ds : List D}, DxAll K F vs ds → DxAll K F (vs.eraseIdx j) (ds.eraseIdx j)
    | _, _, _, .nil => .nil
    | 0, _, _, .cons _ t => t
    | j + 1, _, _, .cons a t => .cons a (dpAllErase j t)
end
section
variable {K : PySem.W.Frag} {d z : D} {ds : List D}
/-- l.index(x), data of any depth -/
theorem rm_index {j : Nat} (h1 : SeqAt.shaped (.list ds) = true) (h2 : SeqAt.shaped d = true) (h3 : ds[j]? = some z) (h4 : PyData.eqv z d = true) (h5 : ∀ (m : Nat) (z' : PyData), m < j → ds[m]? = some z' → PyData.eqv z' d = false) :
    RMD K (rIndexD K) (.list ds) [d] (.int (j : Nat)) := fun F H x xs Q f a b q => by
  obtain ⟨v, rfl, b1⟩ := b.one
  obtain ⟨p, vs, rfl, k1, k2⟩ := a.list f
  exact ⟨p, v, d, ds, j, z, rfl, rfl, (a.dp f).old (noDct h1), (b1.dp f).old (noDct h2), h1, h2, h3, h4, h5, q _ F H (.at (.int _))⟩
def rTIx (K : PySem.W.Frag) : V → List V → Hp → VK → Prop := fun x xs H Q => ∃ (p : Addr) (ys : List Str) (z : Str) (j : Nat), x = V.ref p ∧ xs = [.str z] ∧ SqT K H p (ys.map V.str) ∧ ys[j]? = some z ∧ (∀ m, m < j → ys[m]? ≠ some z) ∧ Q (.int (j : Nat)) H
theorem mt_tix {X : Cx} : MtR X "tuple.index" (rTIx X.K) := fun pins s σ H x xs v us Q I rx rs h => by
  obtain ⟨p, ys, z, j, h1, h2, h3, h4, h5, q⟩ := h
  exact mt_tup_index pins s σ H x xs v us Q I rx rs ⟨p, ys, z, j, h1, h2, h3, h4, h5, q⟩
theorem rm_tix {ys : List Str} {y : Str} {j : Nat} (h1 : ys[j]? = some y) (h2 : ∀ m, m < j → ys[m]? ≠ some y) : RMD K (rTIx K) (.tuple (ys.map .str)) [.str y] (.int (j : Nat)) := fun F H x xs Q f a b q => by
  obtain ⟨v, rfl, b1⟩ := b.one
  obtain ⟨p, vs, rfl, k1, k2⟩ := a.tup f
  have e := dp_strs k2
  subst e
  exact ⟨p, ys, y, j, rfl, by rw [b1.str], k1, h1, h2, q _ F H (.at (.int _))⟩
/-- sorted(l), ints -/
theorem rc_sorted {ns zs : List Int} (h : ∀ ns' : List Int, ns'.Perm ns → ns'.Pairwise (· ≤ ·) → ns' = zs) : RCN K (rSortedI K) [.list (ns.map .int)] (zs.map .int) := fun F H xs Q f a q => by
  obtain ⟨v, rfl, a1⟩ := a.one
  obtain ⟨p, vs, rfl, k1, k2⟩ := a1.list f
  have e := dp_ints k2
  subst e
  refine ⟨p, ns, rfl, k1, fun ns' l h1 h2 hl => ?_⟩
  rw [h ns' h1 h2]
  exact q l _ hl (dpInts zs)
end
theorem dp_rg {K : PySem.W.Frag} {F : Hp} {a b : Int} : DxAll K F (rgV a b) (((List.range (b - a).toNat).map fun i => a + (i : Nat)).map .int) := by
  unfold rgV
  have : ((List.range (b - a).toNat).map fun i => V.int (a + (i : Nat))) = ((List.range (b - a).toNat).map fun i => a + (i : Nat)).map V.int := by rw [List.map_map]; rfl
  rw [this]
  exact dpInts _
theorem en_rg1 {g : Gm} {te : TE} {ρ ρ1 : Rho} {n : Int} (h : EvD g te ρ (.int n) ρ1) (hn : RgOk 0 n) : EvN g (tLstRg (tRg1 te)) ρ (((List.range (n - 0).toNat).map fun i => (0 : Int) + (i : Nat)).map .int) ρ1 := fun c F H σ k s Q q =>
  h c F H σ k s _ fun v F1 H1 s1 e1 x => by
    cases x
    exact ⟨n, rfl, hn, fun p hp => q p _ F1 H1 s1 e1 hp dp_rg⟩
end DL
namespace DL
open PySem PySem.Spec PyProof.Rows L2
variable [TabC]
theorem units70 {A : Around} {k : Nat} (hr : Room k A) : A.units + 70 < cLine := by have := hr.un; omega
def tTupRgX (te : L2.St → Hp → (Int → Int → Hp → Prop) → Prop) : TE := fun σ H Q => te σ H fun a b H1 => RgOk a b ∧ NewT H1 Q (rgV a b)
theorem ed_tupRg1 {g : Gm} {te : TE} {ρ ρ1 : Rho} {n : Int} (h : EvD g te ρ (.int n) ρ1) (hn : RgOk 0 n) : EvD g (tTupRgX (tRg1 te)) ρ (.tuple (((List.range (n - 0).toNat).map fun i => (0 : Int) + (i : Nat)).map .int)) ρ1 := fun c F H σ k s Q q =>
  h c F H σ k s _ fun v F1 H1 s1 e1 x => by
    cases x
    refine ⟨n, rfl, hn, fun p o hp ho => ?_⟩
    obtain ⟨s3, e3, q3⟩ := (Res.new hp ho dp_rg : Res c.K F1 H1 _ _ _ _).sim s1
    exact q _ _ _ s3 (e1.trans e3) q3
def uRepr (K : PySem.W.Frag) : List V → Hp → VK → Prop := fun xs H Q => rReprD K xs H Q ∨ ∃ i : Int, xs = [.int i] ∧ i.natAbs.log2 < 1920 ∧ Q (.str (toString i)) H
theorem cr_uRepr {X : Cx} (gA : X.A.guards = some []) (hu : X.A.units + 70 < cLine) : CallR X (.builtin "repr") (uRepr X.K) := fun pins s σ H xs us Q I r h => by
  rcases h with h | h
  · exact cr_repr gA hu pins s σ H xs us Q I r h
  · exact SkE.call_repr_int pins s σ H xs us Q I r h
theorem rc_uReprD {K : PySem.W.Frag} {d : D} (hl : (∃ ds, d = .list ds) ∨ ∃ ds, d = .tuple ds) (h1 : d.showable = true) (h2 : d.hasDict = false) (h3 : d.depth ≤ 64) (h4 : d.shown.length ≤ sizeLine) : RCD K (uRepr K) [d] (.str d.shown) :=
  fun F H xs Q f a q => .inl (rc_repr hl h1 h2 h3 h4 F H xs Q f a q)
theorem rc_uReprI {K : PySem.W.Frag} {i : Int} (h : i.natAbs.log2 < 1920) : RCD K (uRepr K) [.int i] (.str (toString i)) := fun F H xs Q f a q => by
  obtain ⟨v, rfl, a1⟩ := a.one
  exact .inr ⟨i, by rw [a1.int], h, q _ F H (.at (.str _))⟩
theorem ed_setd {g : Gm} {ty tx : TE} {ρ ρ1 ρ2 : Rho} {i : Nat} {k : Key} {d : D} {kvs kvs0 : List (Key × D)} (h0 : ρ[i]? = some (.own (.dK kvs0))) (hk : EvD g ty ρ (keyOf k) ρ1) (hd : EvD g tx ρ1 d ρ2) (h1 : ρ2[i]? = some (.own (.dK kvs))) (hz : kvs.length < sizeLine) :
    EvD g (tDSetd (tVar i) ty tx) ρ ((valD kvs k).getD d) (ρ2.set i (.own (.dK (if (valD kvs k).isSome then kvs else putD kvs k d)))) := fun c F H σ kk s Q q => by
  obtain ⟨a, xs, f1, f2, f3, _⟩ := s.dkAt h0
  refine ⟨.ref a, f1, a, rfl, .inl ⟨_, .inl f2⟩, hk c F H σ kk s _ fun v F1 H1 s1 e1 x => hd c F1 H1 σ kk s1 _ fun u F2 H2 s2 e2 y => ?_⟩
  obtain ⟨a', ys, g1, g2, g3, g4⟩ := s2.dkAt h1
  have := some_inj2 f1 g1
  subst this
  refine ⟨ys, k, g2, dp_key x, by rw [kd_len g3]; exact hz, fun v' hv => ?_, fun hv => ?_⟩
  · rcases kd_val k g3 with ⟨z1, z2⟩ | ⟨w, d', z1, z2, z3⟩
    · rw [z1] at hv; cases hv
    · rw [z1] at hv
      cases hv
      rw [z2] at q
      have e : (ρ2.set i (.own (.dK kvs))) = ρ2 := by
        apply List.ext_getElem?
        intro j
        by_cases z : j = i
        · subst z
          rw [List.getElem?_set_self (List.getElem?_eq_some_iff.mp h1).1, h1]
        · rw [List.getElem?_set_ne (Ne.symm z)]
      simp only [Option.isSome_some, if_true, Option.getD_some, e] at q
      exact q _ F2 H2 s2 (e1.trans e2) z3
  · rcases kd_val k g3 with ⟨z1, z2⟩ | ⟨w, d', z1, z2, z3⟩
    · rw [z2] at q
      simp only [Option.isSome_none, Option.getD_none, Bool.false_eq_true, if_false] at q
      exact q _ F2 _ (g4 _ _ ⟨rfl, _, upd_same, kd_put y g3⟩) (e1.trans e2) y
    · rw [z1] at hv; cases hv
def rRepX (K : PySem.W.Frag) : R2 := fun x y H Q => ∃ l k xs, x = .ref l ∧ y = .int k ∧ SqT K H l xs ∧ xs ≠ [] ∧ 2 ≤ k ∧ k ≤ 1000 ∧ xs.length ≤ 1000 ∧ NewT H Q (List.replicate k.toNat xs).flatten
theorem op_repX {X : Cx} : OpR X (binaryOp .Mult) (rRepX X.K) := by
  rintro pins s σ H x y v u Q I rx ry ⟨l, k, xs, rfl, rfl, hT, hne, k2, k3, lx, q⟩
  cases rx
  obtain ⟨t, rfl⟩ := ry
  obtain ⟨its, r, ⟨⟨cls, dd, data, sl⟩, ho, hc, n, hd⟩, _⟩ := I.tuple hT
  simp only at hc hd
  subst hc hd
  have le : its.length = xs.length := r.length.symm
  have nonempty : its.toArray.isEmpty = false := by
    cases its with
    | nil => exact absurd (List.eq_nil_of_length_eq_zero le.symm) hne
    | cons _ _ => rfl
  have bound : k.toNat * xs.length ≤ 1000000 := Nat.le_trans (Nat.mul_le_mul (show k.toNat ≤ 1000 by omega) lx) (by decide)
  have flen : (List.replicate k.toNat its).flatten.length ≤ sizeLine := by
    rw [PyProof.Rows.lm_len_rep_flat, le, sizeLine_eq]
    omega
  have boundI : ((its.toArray.size : Nat) : Int) * k ≤ 1000000 := by
    rw [List.size_toArray, le]
    have : ((xs.length : Nat) : Int) * k ≤ 1000 * k := Int.mul_le_mul_of_nonneg_right (by omega) (by omega)
    omega
  refine wpAny_binaryOp_repeat_ref (T := "tuple") (U := "int") (by decide) ⟨_, ho, rfl⟩ (fun s' => typeIs_int s' k t) noFill_tuple_mul F.fills_int_mul F.slot_int_rmul repeat_tuple F.slot_int_index.lookup ?_
  refine call_meets F.slot_int_rmul (typeIs_int s k t) F.entry_int_rmul (F.args_int_rmul_2 _ _) (int_rmul_tuple k t l its.toArray n dd sl) ⟨ho, rfl, ⟨_, ho, rfl⟩, ?_⟩
  refine call_meets F.slot_tuple_mul ⟨_, ho, rfl⟩ F.entry_tuple_mul (F.args_tuple_mul_2 _ _) (tuple_mulW l its.toArray n dd sl k t ?_ ?_ ?_ (by omega) ?_ (by rw [size_rep, List.size_toArray]; exact flen)) ⟨ho, ?_⟩
  · rw [decide_eq_false (by omega), decide_eq_false (by omega)]; rfl
  · rw [nonempty, Bool.false_or]; exact beq_eq_false_iff_ne.mpr (by omega)
  · rw [nonempty, Bool.or_false]; exact decide_eq_false (by omega)
  · unfold Builtin.Tuple.tupleTooMany
    rw [sizeLine_eq]
    exact decide_eq_false (by omega)
  · rw [size_rep]
    exact Inv.laidE (Q := Q) I (r.rep k.toNat) (by rw [PyProof.Rows.lm_len_rep_flat, sizeLine_eq]; omega) q
theorem r2_rep {K : PySem.W.Frag} {ds : List D} {n : Int} (h : ds ≠ []) (h0 : 2 ≤ n) (h1 : n ≤ 1000) (h2 : ds.length ≤ 1000) : R2D K (rRepX K) (.tuple ds) (.int n) (.tuple (List.replicate n.toNat ds).flatten) := fun F H x y Q f a b q => by
  obtain ⟨p, vs, rfl, k1, k2⟩ := a.tup f
  have hl := dpAllLen k2
  refine ⟨p, n, vs, rfl, b.int, k1, fun z => h ?_, h0, h1, by omega, fun l o hl' ho => q _ _ _ (.new hl' ho (rep n.toNat k2))⟩
  rw [z] at hl
  exact List.eq_nil_of_length_eq_zero hl.symm
where
  rep {K : PySem.W.Frag} {F : Hp} : ∀ (m : Nat) {vs : List V} {ds : List D}, DxAll K F vs ds → DxAll K F (List.replicate m vs).flatten (List.replicate m ds).flatten
    | 0, _, _, _ => .nil
    | m + 1, _, _, h => by
      rw [List.replicate_succ, List.replicate_succ, List.flatten_cons, List.flatten_cons]
      exact dpAllApp h (rep m h)
end DL
namespace DL
open PySem PySem.Spec PyProof.Rows L2
variable [TabC]
def uIn (K : PySem.W.Frag) : R2 := fun x y H Q => rIn K false x y H Q ∨ rInD K x y H Q
def uNotIn (K : PySem.W.Frag) : R2 := fun x y H Q => rIn K true x y H Q ∨ rNotInD K x y H Q
theorem op_uIn {X : Cx} (hu : X.A.units + 65 < cLine) : OpR X (compareOp .In) (uIn X.K) := OpR.or op_in_seq (op_inD hu)
section
variable {K : PySem.W.Frag} {y : Str} {ys : List Str} {d : D} {ds : List D}
theorem ri_dat (h1 : SeqAt.shaped d = true) (h2 : SeqAt.shaped (.list ds) = true) : R2D K (uIn K) d (.list ds) (.bool (ds.any fun z => PyData.eqv z d)) := fun F H x l Q f a b q => .inr (r2_inD h1 h2 F H x l Q f a b q)
theorem rn_dat (h1 : SeqAt.shaped d = true) (h2 : SeqAt.shaped (.list ds) = true) : R2D K (uNotIn K) d (.list ds) (.bool (!ds.any fun z => PyData.eqv z d)) := fun F H x l Q f a b q => .inr (r2_notInD h1 h2 F H x l Q f a b q)
end
end DL
namespace DL
open PySem PySem.Spec PyProof.Rows L2
variable [TabC]
variable {K : PySem.W.Frag} {g : Gm}
def isS : D → Bool
  | .str _ => true
  | _ => false
def isI : D → Bool
  | .int _ => true
  | _ => false
/-- a thing that cannot be a list of texts -/
def apartS : D → Bool
  | .int _ => true
  | .list (.int _ :: ds) => ds.all isI
  | _ => false
def atomD : D → Bool
  | .int _ => true
  | .str _ => true
  | .bool _ => true
  | .none => true
  | _ => false
theorem dxAtom {F F' : Hp} {v : V} {d : D} (h : Dx K F v d) (a : atomD d = true) : Dx K F' v d := by
  cases h with
  | non => exact .non
  | bl b => exact .bl b
  | int i => exact .int i
  | str x => exact .str x
  | lst _ _ => cases a
  | tup _ _ => cases a
  | dct _ _ => cases a
  | fn _ => cases a
theorem dxInts {F F' : Hp} {vs : List V} {ds : List D} (h : DxAll K F vs ds) : ds.all isI = true → DxAll K F' vs ds := by
  intro a
  induction ds generalizing vs with
  | nil => cases h; exact .nil
  | cons d ds ih =>
    cases h with
    | cons x t =>
      rw [List.all_cons, Bool.and_eq_true] at a
      refine .cons ?_ (ih t a.2)
      cases x with
      | int i => exact .int i
      | non => cases a.1
      | bl b => cases a.1
      | str x => cases a.1
      | lst _ _ => cases a.1
      | tup _ _ => cases a.1
      | dct _ _ => cases a.1
      | fn _ => cases a.1
theorem dxApart {F F' F2 : Hp} {aj : Addr} {vs : List V} {ds : List D} (hj : F' aj = some (.lst vs)) (hs : DxAll K F vs ds) (hd : ds.all isS = true) (e : ∀ b, b ≠ aj → F2 b = F' b) {v : V} {d : D} (h : Dx K F' v d) (a : apartS d = true) : Dx K F2 v d := by
  cases h with
  | non => cases a
  | bl b => cases a
  | int i => exact .int i
  | str x => cases a
  | tup _ _ => cases a
  | dct _ _ => cases a
  | fn _ => cases a
  | lst h1 h2 =>
    rename_i b xs es
    cases es with
    | nil => cases a
    | cons d es =>
      cases d with
      | int i =>
        have all : (PyData.int i :: es).all isI = true := by simpa [apartS, isI] using a
        refine .lst ?_ (dxInts h2 all)
        by_cases z : b = aj
        · subst z
          rcases h1 with h1 | h1
          · exfalso
            have ex : xs = vs := by
              rcases h1 with h1 | ⟨o, h1⟩
              · rw [hj] at h1; cases h1; rfl
              · rw [hj] at h1; cases h1
            subst ex
            cases h2 with
            | cons x t =>
              cases x
              cases hs with
              | cons y t2 =>
                cases y
                rw [List.all_cons] at hd
                cases hd
          · exact .inr h1
        · rcases h1 with h1 | h1
          · refine .inl ?_
            rcases h1 with h1 | ⟨o, h1⟩
            · exact .inl (by rw [e b z]; exact h1)
            · exact .inr ⟨o, by rw [e b z]; exact h1⟩
          · exact .inr h1
      | _ => cases a
theorem dxAparts {F F' F2 : Hp} {aj : Addr} {vs : List V} {ds : List D} (hj : F' aj = some (.lst vs)) (hs : DxAll K F vs ds) (hd : ds.all isS = true) (e : ∀ b, b ≠ aj → F2 b = F' b) : ∀ {xs : List V} {es : List D}, DxAll K F' xs es → es.all apartS = true → DxAll K F2 xs es
  | _, _, .nil, _ => .nil
  | _, _, .cons x t, a => by
    rw [List.all_cons, Bool.and_eq_true] at a
    exact .cons (dxApart hj hs hd e x a.1) (dxAparts hj hs hd e t a.2)
theorem ed_callL {R : List D → List D → RetV → List D → Prop} {ρ : Rho} {i j : Nat} {st st' ds : List D} {d : D} {E : XK} (he : ρ[i]? = some (.own (.lst st))) (hj : ρ[j]? = some (.own (.lst ds))) (ij : i ≠ j) (hR : R st [.list ds] (.dat d) st') (hS : ds.all isS = true) (hA : st'.all apartS = true) (hd : atomD d = true) :
    EvD g (tCall (spS R g.K) [] E (tCons (tVar i) (tCons (tVar j) tNil))) ρ d (ρ.set i (.own (.lst st'))) := fun c F H σ k s Q q => by
  have kk : c.K = g.K := k.1
  obtain ⟨fp, sf⟩ := id s
  obtain ⟨a, f1, f2, ws, f3, f4⟩ := sf.own i _ he
  obtain ⟨b, b1, b2, vs, b3, b4⟩ := sf.own j _ hj
  have ab : a ≠ b := fun e => ij (sf.sep i j _ _ a he hj (by rw [f2]; simp) (by rw [b2, e]; simp))
  have fa : F a = none := (sf.ownF i _ a he (by rw [f2]; simp)).1
  have fb : F b = none := (sf.ownF j _ b hj (by rw [b2]; simp)).1
  have s1 : Same F (upd F b (.lst vs)) := fun x o z => by rw [upd_ne (ne_of_none z fb)]; exact z
  have s2 : Same (upd F b (.lst vs)) H := fun x o z => by
    by_cases y : x = b
    · subst y; rw [upd_same] at z; cases z; exact b3
    · rw [upd_ne y] at z; exact sf.fh x o z
  refine ⟨_, f1, _, b1, ?_⟩
  show spS R g.K ([V.ref a, V.ref b] ++ []) H Q E
  rw [List.append_nil, ← kk]
  refine ⟨upd F b (.lst vs), a, ws, [.ref b], st, [.list ds], .dat d, st', rfl, ⟨s2, sf.tabs⟩, f3, by rw [upd_ne ab]; exact fa, dpAllUp s1 f4, .cons (.lst (.inl (.inl upd_same)) (dpAllUp s1 b4)) .nil, hR, fun v F' H' t r => ?_⟩
  classical
  let F2 : Hp := fun x => if x = b then none else F' x
  have hF2 : ∀ x, x ≠ b → F2 x = F' x := fun x z => by simp only [F2, if_neg z]
  have hb : F' b = some (.lst vs) := t.f0 b _ upd_same
  have s3 : Same F F2 := fun x o z => by
    have y : x ≠ b := ne_of_none z fb
    rw [hF2 x y]
    exact t.f0 x o (s1 x o z)
  have t2 : Sim ⟨c.K, [(0, a)], (· = a), F, H⟩ F2 H' [some (.ref a)] [.own (.lst st')] := by
    obtain ⟨fp', t⟩ := t
    refine ⟨fp', s3, fun x o z => ?_, t.keep, t.dom, fun x z y => ?_, t.par, fun i d q => ?_, fun i w q => ?_, fun i w x q m => ?_, t.sep, t.len, t.wp, t.pb, t.tb, t.tw⟩
    · by_cases y : x = b
      · subst y; simp [F2] at z
      · rw [hF2 x y] at z; exact t.fh x o z
    · by_cases y' : x = b
      · subst y'; simp [F2]
      · rw [hF2 x y']; exact t.av x z (by show upd F b (.lst vs) x = none; rw [upd_ne y']; exact y)
    · cases i with
      | zero => cases q
      | succ i => cases q
    · obtain ⟨a2, h1, h2⟩ := t.own i w q
      cases i with
      | succ i => cases q
      | zero =>
        cases q
        obtain ⟨h3, xs, h4, h5⟩ := h2
        exact ⟨a2, h1, h3, xs, h4, dxAparts hb b4 hS hF2 h5 hA⟩
    · obtain ⟨h1, h2, h3⟩ := t.ownF i w x q m
      refine ⟨?_, h2, h3⟩
      by_cases y : x = b
      · subst y; simp [F2]
      · rw [hF2 x y]; exact h1
  exact q v F2 H' ⟨fp, sf.afterS he f1 t2⟩ s3 (dxAtom r hd)
end DL
namespace DL
open PySem PySem.Spec PyProof.Rows L2
variable [TabC]
theorem tuple_mulS (l : Addr) (items : Array Value) (n : Nat) (dd : Option Addr) (sl : Array (Option Value)) (x : Int) (u : Tok) (c0 : (decide (x < -(2 ^ 63)) || decide (x ≥ 2 ^ 63)) = false) (c1 : (items.isEmpty || x == 1) = true) :
    Meets (Builtin.«tuple.__mul__» ⟨[.ref l, .int x u], []⟩) (fun _ R s => s.heap.get? l = some { cls := .type "tuple", dict := dd, data := .seq items n, slots := sl } ∧
      R (.ok (.ret (Value.ref l))) s) :=
  .of_wp fun prog w A R s h => by
    obtain ⟨hp, g, d, tk, os⟩ := s
    obtain ⟨hl, h⟩ := h
    have f1 := AutoSeq1.idx_int
    wp_walk using wpAny_loadPart' hl
    refine wpAny_ite_false (decide_eq_false (by rw [c0]; exact Bool.false_ne_true)) ?_
    wp_walk using wpAny_loadPart' hl
    exact ⟨_, rfl, h⟩
theorem tuple_mul0 (l : Addr) (items : Array Value) (n : Nat) (dd : Option Addr) (sl : Array (Option Value)) (x : Int) (u : Tok) (c0 : (decide (x < -(2 ^ 63)) || decide (x ≥ 2 ^ 63)) = false) (c1 : (items.isEmpty || x == 1) = false) (c2 : (decide (x ≤ 0) || items.isEmpty) = true) :
    Meets (Builtin.«tuple.__mul__» ⟨[.ref l, .int x u], []⟩) (fun _ R s => s.heap.get? l = some { cls := .type "tuple", dict := dd, data := .seq items n, slots := sl } ∧
      R (.ok (.ret (Value.ref s.heap.objs.size))) { s with heap := s.heap.push { cls := Value.type "tuple", data := Data.seq #[] }, toks := s.toks }) :=
  .of_wp fun prog w A R s h => by
    obtain ⟨hp, g, d, tk, os⟩ := s
    obtain ⟨hl, h⟩ := h
    have f1 := AutoSeq1.idx_int
    wp_walk using wpAny_loadPart' hl
    repeat (first
      | (refine wpAny_ite_false (decide_eq_false (by rw [c0]; exact Bool.false_ne_true)) ?_; wp_walk using wpAny_loadPart' hl)
      | (refine wpAny_ite_false (decide_eq_false (by rw [c1]; exact Bool.false_ne_true)) ?_; wp_walk using wpAny_loadPart' hl)
      | (refine wpAny_ite_true (decide_eq_true c2) ?_; wp_walk using wpAny_loadPart' hl))
    exact ⟨_, rfl, h⟩
def rRepS (K : PySem.W.Frag) : R2 := fun x y H Q => ∃ l k xs, x = .ref l ∧ y = .int k ∧ TupX K H l xs ∧ -(2 ^ 63) ≤ k ∧ k < 2 ^ 63 ∧ (xs = [] ∨ k = 1) ∧ Q (.ref l) H
def rRep0 (K : PySem.W.Frag) : R2 := fun x y H Q => ∃ l k xs, x = .ref l ∧ y = .int k ∧ SqT K H l xs ∧ -(2 ^ 63) ≤ k ∧ k ≤ 0 ∧ xs ≠ [] ∧ NewT H Q []
theorem op_repS {X : Cx} : OpR X (binaryOp .Mult) (rRepS X.K) := by
  rintro pins s σ H x y v u Q I rx ry ⟨l, k, xs, rfl, rfl, hT, k1, k2, hx, q⟩
  cases rx
  obtain ⟨t, rfl⟩ := ry
  obtain ⟨its, r, ⟨⟨cls, dd, data, sl⟩, ho, hc, n, hd⟩, _⟩ := I.tuple hT.old
  simp only at hc hd
  subst hc hd
  have le : its.length = xs.length := r.length.symm
  refine wpAny_binaryOp_repeat_ref (T := "tuple") (U := "int") (by decide) ⟨_, ho, rfl⟩ (fun s' => typeIs_int s' k t) noFill_tuple_mul F.fills_int_mul F.slot_int_rmul repeat_tuple F.slot_int_index.lookup ?_
  refine call_meets F.slot_int_rmul (typeIs_int s k t) F.entry_int_rmul (F.args_int_rmul_2 _ _) (int_rmul_tuple k t l its.toArray n dd sl) ⟨ho, rfl, ⟨_, ho, rfl⟩, ?_⟩
  refine call_meets F.slot_tuple_mul ⟨_, ho, rfl⟩ F.entry_tuple_mul (F.args_tuple_mul_2 _ _) (tuple_mulS l its.toArray n dd sl k t ?_ ?_) ⟨ho, ?_⟩
  · rw [decide_eq_false (by omega), decide_eq_false (by omega)]; rfl
  · rcases hx with hx | hx
    · subst hx
      cases its with
      | nil => rfl
      | cons _ _ => cases le
    · subst hx; simp
  · exact ⟨.ref l, H, I, rfl, q⟩
theorem op_rep0 {X : Cx} : OpR X (binaryOp .Mult) (rRep0 X.K) := by
  rintro pins s σ H x y v u Q I rx ry ⟨l, k, xs, rfl, rfl, hT, k1, k2, hx, q⟩
  cases rx
  obtain ⟨t, rfl⟩ := ry
  obtain ⟨its, r, ⟨⟨cls, dd, data, sl⟩, ho, hc, n, hd⟩, _⟩ := I.tuple hT
  simp only at hc hd
  subst hc hd
  have le : its.length = xs.length := r.length.symm
  have nonempty : its.toArray.isEmpty = false := by
    cases its with
    | nil => exact absurd (List.eq_nil_of_length_eq_zero le.symm) hx
    | cons _ _ => rfl
  refine wpAny_binaryOp_repeat_ref (T := "tuple") (U := "int") (by decide) ⟨_, ho, rfl⟩ (fun s' => typeIs_int s' k t) noFill_tuple_mul F.fills_int_mul F.slot_int_rmul repeat_tuple F.slot_int_index.lookup ?_
  refine call_meets F.slot_int_rmul (typeIs_int s k t) F.entry_int_rmul (F.args_int_rmul_2 _ _) (int_rmul_tuple k t l its.toArray n dd sl) ⟨ho, rfl, ⟨_, ho, rfl⟩, ?_⟩
  refine call_meets F.slot_tuple_mul ⟨_, ho, rfl⟩ F.entry_tuple_mul (F.args_tuple_mul_2 _ _) (tuple_mul0 l its.toArray n dd sl k t ?_ ?_ ?_) ⟨ho, ?_⟩
  · rw [decide_eq_false (by omega), decide_eq_false (by omega)]; rfl
  · rw [nonempty, Bool.false_or]; exact beq_eq_false_iff_ne.mpr (by omega)
  · rw [decide_eq_true k2]; rfl
  · exact Inv.laidE (Q := Q) I .nil (by decide) q
theorem r2_repS {K : PySem.W.Frag} {ds : List D} {n : Int} (h0 : -(2 ^ 63) ≤ n) (h1 : n < 2 ^ 63) (h2 : ds = [] ∨ n = 1) : R2D K (rRepS K) (.tuple ds) (.int n) (.tuple ds) := fun F H x y Q f a b q => by
  have a' := a.dp f
  obtain ⟨p, vs, rfl, k1, k2⟩ := a.tupX f
  have hl := dpAllLen k2
  refine ⟨p, n, vs, rfl, b.int, k1, h0, h1, h2.imp (fun z => ?_) id, ?_⟩
  · rw [z] at hl
    exact List.eq_nil_of_length_eq_zero hl
  · rcases a with a | ⟨_, _, _, _, z, _⟩
    · exact q _ _ _ (.at a)
    · cases z
theorem r2_rep0 {K : PySem.W.Frag} {ds : List D} {n : Int} (h0 : -(2 ^ 63) ≤ n) (h1 : n ≤ 0) (h2 : ds ≠ []) : R2D K (rRep0 K) (.tuple ds) (.int n) (.tuple []) := fun F H x y Q f a b q => by
  obtain ⟨p, vs, rfl, k1, k2⟩ := a.tup f
  have hl := dpAllLen k2
  refine ⟨p, n, vs, rfl, b.int, k1, h0, h1, fun z => h2 ?_, fun l o hl' ho => q _ _ _ (.new hl' ho .nil)⟩
  rw [z] at hl
  exact List.eq_nil_of_length_eq_zero hl.symm
def rRepL (K : PySem.W.Frag) : R2 := fun x y H Q => ∃ l k xs, x = .ref l ∧ y = .int k ∧ SqL K H l xs ∧ -(2 ^ 63) ≤ k ∧ k < 2 ^ 63 ∧ xs.length * k.toNat ≤ sizeLine ∧ ∀ p, H p = none → Q (.ref p) (upd H p (.lst (List.replicate k.toNat xs).flatten))
theorem op_repL {X : Cx} : OpR X (binaryOp .Mult) (rRepL X.K) := by
  rintro pins s σ H x y v u Q I rx ry ⟨l, k, xs, rfl, rfl, hT, k1, k2, hz, q⟩
  cases rx
  obtain ⟨t, rfl⟩ := ry
  obtain ⟨its, r, ⟨⟨cls, dd, data, sl⟩, n, e, hc, hd, hl⟩, _⟩ := I.list hT
  simp only at hc hd hl
  subst hc hd hl
  have le : its.length = xs.length := r.length.symm
  have hlen : its.toArray.size * k.toNat ≤ sizeLine := by rw [List.size_toArray, le]; exact hz
  have hnew : List.foldl (fun x1 x2 => x1 ++ x2) #[] (List.replicate (if its.toArray.isEmpty = true then 0 else k.toNat) its.toArray) = (List.replicate k.toNat its).flatten.toArray := by
    rw [size_rep]
    cases its with
    | nil => simp
    | cons a r' => rw [if_neg (by simp)]
  refine wpAny_binaryOp_repeat_ref (T := "list") (U := "int") (by decide) ⟨_, e, rfl⟩ (fun s' => typeIs_int s' k t) noFill_list_mul F.fills_int_mul F.slot_int_rmul repeat_list F.slot_int_index.lookup
    (call_meets F.slot_int_rmul (typeIs_int s k t) F.entry_int_rmul (F.args_int_rmul_2 _ _) (lm_int_rmul_list_any k t l its.toArray n none sl)
      ⟨e, rfl, ⟨_, e, rfl⟩, call_meets F.slot_list_mul ⟨_, e, rfl⟩ F.entry_list_mul (F.args_list_mul_2 _ _) (lm_list_mul_any l its.toArray n none sl k t ?_ ?_ ?_) ⟨e, ?_⟩⟩)
  · rw [fitsIndex_both k1 k2]; exact Bool.false_ne_true
  · have : (sizeLine : Nat) ≤ (2 ^ 63 - 1) / 8 := by decide
    omega
  · rw [notLongL hlen]; exact Bool.false_ne_true
  · rw [hnew]
    exact ⟨.ref _, _, I.lnew (t' := s.toks) (r.rep k.toNat) (by rw [PyProof.Rows.lm_len_rep_flat, Nat.mul_comm]; exact (le ▸ hz)), rfl, q _ I.fresh⟩
end DL
namespace DL
open PySem PySem.Spec PyProof.Rows L2
variable [TabC]
variable {K : PySem.W.Frag} {g : Gm} {X : Cx}
def uMin (K : PySem.W.Frag) : List V → Hp → VK → Prop := fun vs H Q => ∃ (a : Addr) (n : Int) (ns : List Int), vs = [.ref a] ∧ (SqL K H a ((n :: ns).map V.int) ∨ SqT K H a ((n :: ns).map V.int)) ∧ Q (.int (ns.foldl min n)) H
theorem rc_minU {n : Int} {ns : List Int} : RCD K (uMin K) [.list ((n :: ns).map .int)] (.int (ns.foldl min n)) := fun F H xs Q f a q => by
  obtain ⟨v, rfl, a1⟩ := a.one
  obtain ⟨p, vs, rfl, h1, k1⟩ := a1.list f
  rw [dp_ints k1] at h1
  exact ⟨p, n, ns, rfl, .inl h1, q _ F H (.at (.int _))⟩
theorem rc_minT {n : Int} {ns : List Int} : RCD K (uMin K) [.tuple ((n :: ns).map .int)] (.int (ns.foldl min n)) := fun F H xs Q f a q => by
  obtain ⟨v, rfl, a1⟩ := a.one
  obtain ⟨p, vs, rfl, h1, k1⟩ := a1.tup f
  rw [dp_ints k1] at h1
  exact ⟨p, n, ns, rfl, .inr h1, q _ F H (.at (.int _))⟩
end DL
namespace DL
open PySem PySem.Spec PyProof.Rows L2
variable [TabC]
variable {K : PySem.W.Frag} {g : Gm} {X : Cx}
def rLtD (K : PySem.W.Frag) : R2 := fun x y H Q => ∃ d e, Dp K H x d ∧ Dp K H y e ∧ PySem.W.alike d e = true ∧ d ≠ .none ∧ min d.depth e.depth ≤ 64 ∧ Q (.bl (PySem.W.dataLt d e)) H
theorem op_ltD (hu : X.A.units + 64 < cLine) : OpR X (compareOp .Lt) (rLtD X.K) := by
  intro pins s σ H x y v u Q I rx ry h
  obtain ⟨d, e, hd, he, sa, sn, sm, q⟩ := h
  obtain ⟨as, r1⟩ := Dp.reads I d x v hd rx
  obtain ⟨bs, r2⟩ := Dp.reads I e y u he ry
  exact PySem.W.lt_data r1 r2 sa sn (by omega) ⟨.bl _, H, I, rfl, q⟩
theorem r2_ltD {d e : D} (h1 : PySem.W.alike d e = true) (h2 : d ≠ .none) (h3 : min d.depth e.depth ≤ 64) (k1 : d.hasDict = false) (k2 : e.hasDict = false) : R2D K (rLtD K) d e (.bool (PySem.W.dataLt d e)) := fun F H x y Q f a b q => ⟨d, e, (a.dp f).old k1, (b.dp f).old k2, h1, h2, h3, q _ F H (.at (.bl _))⟩
theorem walk_rngC {F : Hp} {lo c : Int} {n : Nat} : WalkD K F (Itc lo c n) n (fun i => .int (lo + (i : Nat) * c)) := fun F2 H2 e1 e2 =>
  ⟨fun i hi => hi, Nat.le_refl _, fun i x H' hi ⟨e, q⟩ => by
    subst e q
    exact ⟨F2, .at (.int _)⟩⟩
theorem ei_rngN {ta : TA} {ρ ρ1 : Rho} {m n : Int} {A B C : Arg} (h : EvA g ta ρ [A, B, C] ρ1) (hA : A = .d (.int m)) (hB : B = .d (.int n)) (hC : C = .d (.int (-1))) (hb : (-(2 ^ 62) ≤ m ∧ m < 2 ^ 62) ∧ -(2 ^ 62) ≤ n ∧ n < 2 ^ 62) : EvI g (iRng3 ta) ρ (m - n).toNat (fun i => .int (m - i)) ρ1 := fun c F H σ k s R q => h c F H σ k s _ fun vs F1 H1 s1 e1 x => by
  subst hA hB hC
  cases x with
  | cons a t =>
    cases t with
    | cons b t =>
      cases t with
      | cons d t =>
        cases t
        cases a with
        | d a =>
          cases a
          cases b with
          | d b =>
            cases b
            cases d with
            | d d =>
              cases d
              refine ⟨m, n, -1, (m - n).toNat, rfl, RgC.neg hb.1.1 hb.1.2 hb.2.1 hb.2.2, q _ F1 H1 s1 e1 ?_⟩
              have w := walk_rngC (K := c.K) (F := F1) (lo := m) (c := -1) (n := (m - n).toNat)
              have e : (fun i : Nat => PyData.int (m + (i : Nat) * -1)) = fun i : Nat => PyData.int (m - (i : Nat)) := funext fun i => by rw [show m + (i : Int) * -1 = m - (i : Int) by omega]
              rw [e] at w
              exact w
def PureE (g : Gm) (te : TE) (ρ : Rho) (d : D) : Prop := ∀ (c : Cc) (F H : Hp) (σ : L2.St), c.K = g.K → Sim c F H σ ρ → ∀ (H' : Hp) (Q : VK), (∀ v, Dx c.K F v d → Q v H') → te σ H' Q
theorem pure_var {ρ : Rho} {j : Nat} {d : D} (h : ρ[j]? = some (.dat d)) : PureE g (tVar j) ρ d := fun c F H σ k s H' Q q => by
  obtain ⟨v, e, x⟩ := s.dat h
  exact ⟨v, e, q v x⟩
theorem pure_int {ρ : Rho} {i : Int} : PureE g (tC (.int i)) ρ (.int i) := fun c F H σ k s H' Q q => q _ (.int i)
theorem pure_neg {ρ : Rho} {i : Int} : PureE g (tUn (rU fun i => .int (-i)) (tC (.int i))) ρ (.int (-i)) := fun c F H σ k s H' Q q => ⟨i, rfl, q _ (.int _)⟩
theorem kd_key {F : Hp} {v : V} {k : Key} (x : Dx K F v (keyOf k)) : v = kV k := by
  rw [dp_key x]
theorem ew_disp1 {tk : TE} {ρ : Rho} {k : Key} {n : Int} (hk : PureE g tk ρ (keyOf k)) : EvW g (tDisp [(tk, tC (.int n))]) ρ (.dK [(k, .int n)]) ρ := fun c F H σ kk s Q q p hp => by
  obtain ⟨fp, sf⟩ := id s
  refine hk c F H σ kk.1 s (upd H p (.dK [])) _ fun v x => ?_
  show upd H p (.dK []) p = some (.dK []) ∧ _
  refine ⟨upd_same, [(k, .int n)], by rw [kd_key x]; rfl, by simp, ?_⟩
  have hB : c.B p = none := by
    cases z : c.B p with
    | none => rfl
    | some u => exact absurd hp (sf.dom p (by simp [z]))
  have no : ∀ (j : Nat) (w : Ow), ρ[j]? = some (.own w) → p ∉ fp j := fun j w z m => (sf.ownF j w p z m).2.1 hp
  have eu : upd (upd H p (.dK [])) p (.dK (mergeK [] [(k, V.int n)])) = upd H p (.dK (mergeK [] [(k, V.int n)])) := by
    funext b
    unfold upd
    split <;> rfl
  rw [eu]
  refine q p F _ ⟨[p], fp, sf.other (freeF sf.fh hp) hB no, ⟨rfl, _, upd_same, .cons ⟨rfl, .int n⟩ .nil⟩, fun b m => ?_, fun j w' b z m => ?_⟩ (Same.refl _)
  · have z : b = p := by simpa using m
    subst z
    exact ⟨freeF sf.fh hp, by rw [upd_same]; simp, hB⟩
  · have y : b = p := by simpa using m
    subst y
    exact no j w' z
end DL
namespace DL
open PySem PySem.Spec PyProof.Rows L2
variable [TabC]
section
variable {g : Gm} {t : TA} {ρ ρ1 : Rho} {As : List Arg} {ds : List D} {d : D}
/-- a call, for what it may let out -/
theorem sv_dropEx {R : List D → RetX → Prop} {P : Out → Prop} {C : Addr} (ha : EvA g t ρ As ρ1) (hR : R ds (.exc C)) (hd : datas As = some ds) (h : P (.ex C ρ1)) : Sv g (tDrop (tCall (spX R g.K) [] g.xe t)) ρ P := fun c F H σ D k s p =>
  ha c F H σ k.ok s _ fun vs F1 H1 s1 e1 h1 => by
    have kk : c.K = g.K := k.ok.1
    obtain ⟨fp, sf⟩ := id s1
    rw [List.append_nil, ← kk]
    refine ⟨F1, ds, .exc C, s1.ft, h1.datas hd, hR, fun F' H' t => ?_⟩
    exact p.ex _ F' H' σ C h ⟨fp, sf.after t⟩ (e1.trans t.f0)
end
end DL
namespace DL
open PySem PySem.Spec PyProof.Rows L2
variable [TabC]
variable {g : Gm}
def offH (F : Hp) (a : Addr) : Hp := fun b => if b = a then none else F b
section
variable {K : PySem.W.Frag} {F : Hp} {a : Addr} {od : Obj} {ks : List (Key × V)}
theorem off_ne {b : Addr} (h : b ≠ a) : offH F a b = F b := if_neg h
theorem off_some {b : Addr} {o : HO} (h : offH F a b = some o) : b ≠ a ∧ F b = some o := by
  unfold offH at h
  split at h
  · cases h
  · exact ⟨‹_›, h⟩
theorem off_of {b : Addr} {o : HO} (h : F a = some (.frz od (.dK ks))) (e : F b = some o) (n : o ≠ .frz od (.dK ks)) : offH F a b = some o := by
  rw [off_ne]
  · exact e
  · intro z
    rw [z, h] at e
    cases e
    exact n rfl
theorem slOff {b : Addr} {xs : List V} (h : F a = some (.frz od (.dK ks))) (q : SqL K F b xs) : SqL K (offH F a) b xs := by
  rcases q with (q | ⟨o, q⟩) | q
  · exact .inl (.inl (off_of h q fun z => by cases z))
  · exact .inl (.inr ⟨o, off_of h q fun z => by cases z⟩)
  · exact .inr q
theorem txOff {b : Addr} {xs : List V} (h : F a = some (.frz od (.dK ks))) (q : TupX K F b xs) : TupX K (offH F a) b xs := by
  rcases q with ⟨o, q, d⟩ | q
  · exact .inl ⟨o, off_of h q (fun z => by cases z), d⟩
  · exact .inr q
mutual
theorem dpOff (h : F a = some (.frz od (.dK ks))) : ∀ {v : V} {d : D}, Dx K F v d → Dx K (offH F a) v d
  | _, _, .non => .non
  | _, _, .bl b => .bl b
  | _, _, .int i => .int i
  | _, _, .str x => .str x
  | _, _, .lst q t => .lst (slOff h q) (dpAllOff h t)
  | _, _, .tup q t => .tup (txOff h q) (dpAllOff h t)
  | _, _, .dct q t => .dct (off_of h q fun z => by cases z) (dpKvOff h t)
  | _, _, .fn a => .fn a
theorem dpKvOff (h : F a = some (.frz od (.dK ks))) : ∀ {vs : List (Key × V)} {ds : List (D × D)}, DxKv K F vs ds → DxKv K (offH F a) vs ds
  | _, _, .nil => .nil
  | _, _, .cons q t => .cons (dpOff h q) (dpKvOff h t)
theorem dpAllOff (h : F a = some (.frz od (.dK ks))) : ∀ {vs : List V} {ds : List D}, DxAll K F vs ds → DxAll K (offH F a) vs ds
  | _, _, .nil => .nil
  | _, _, .cons q t => .cons (dpOff h q) (dpAllOff h t)
end
theorem owOff {H H' : Hp} {b : Addr} {f : List Addr} {w : Ow} (h : F a = some (.frz od (.dK ks))) (q : OwRep K F H b f w) (k : ∀ z ∈ f, H' z = H z) (n : ∀ kvs, w ≠ .dF kvs) : OwRep K (offH F a) H' b f w := by
  cases w with
  | lst ds =>
    obtain ⟨rfl, vs, h1, h2⟩ := q
    exact ⟨rfl, vs, (k b (by simp)).trans h1, dpAllOff h h2⟩
  | lls dss =>
    obtain ⟨bs, rfl, nd, h1, h2⟩ := q
    exact ⟨bs, rfl, nd, (k b (by simp)).trans h1, pairedMap h2 fun z ds m ⟨vs, q1, q2⟩ => ⟨vs, (k z (by simp [m])).trans q1, dpAllOff h q2⟩⟩
  | dK kvs =>
    obtain ⟨rfl, xs, h1, h2⟩ := q
    exact ⟨rfl, xs, (k b (by simp)).trans h1, pairedMap h2 fun p r _ z => ⟨z.1, dpOff h z.2⟩⟩
  | dF kvs => exact absurd rfl (n kvs)
end
/-- the statement runs while the dict is locked -/
theorem sv_lock {ts : TS} {ρ : Rho} {j : Nat} {kvs : List (Key × D)} {P : Out → Prop} (he : ρ[j]? = some (.own (.dK kvs))) (hp : j ∉ g.ps)
    (h : Sv ⟨g.K, j :: g.ps, g.xe⟩ ts (ρ.set j (.own (.dF kvs))) fun o => ∃ ρ' kvs', o = .nx ρ' ∧ ρ'[j]? = some (.own (.dF kvs')) ∧ (∀ (i : Nat) ks, (ρ'.set j .no)[i]? ≠ some (.own (.dF ks))) ∧ P (.nx (ρ'.set j (.own (.dK kvs'))))) :
    Sv g (tLock ts) ρ P := fun c F H σ E kk s pp => by
  obtain ⟨fp, sf⟩ := id s
  obtain ⟨a, e1, e2, xs, e3, e4⟩ := sf.own j _ he
  have ma : a ∈ fp j := by rw [e2]; simp
  obtain ⟨Fa, Ha, Wa⟩ := sf.ownF j _ a he ma
  have hj : j < ρ.length := (List.getElem?_eq_some_iff.mp he).1
  have Ba : c.B a = none := Wa.resolve_right fun w => by
    obtain ⟨j', hj'⟩ := kk.wp a w
    have := sf.wp j _ a he ma j' hj'
    subst this
    exact notP kk hp a hj'
  have F0a : c.F0 a = none := freeF sf.f0 Fa
  refine ⟨a, .dK xs, e3, trivial, fun od => ?_⟩
  let fz : HO := .frz od (.dK xs)
  let c' : Cc := ⟨c.K, (j, a) :: c.P, c.W, upd c.F0 a fz, upd c.B a fz⟩
  have k' : c'.okS ⟨g.K, j :: g.ps, g.xe⟩ := ⟨⟨kk.ok.1, by show ((j, a) :: c.P).map _ = _; rw [List.map_cons, kk.ok.2]⟩, fun b w => let ⟨i, m⟩ := kk.wp b w; ⟨i, List.mem_cons_of_mem _ m⟩⟩
  have set_own : ∀ {ρ : Rho} {w0 : Ow} {i : Nat} {w : Ow}, j < ρ.length → (ρ.set j (.own w0))[i]? = some (.own w) → (i = j ∧ w = w0) ∨ (i ≠ j ∧ ρ[i]? = some (.own w)) := fun {ρ w0 i w} hl q => by
    by_cases z : i = j
    · subst z
      rw [List.getElem?_set_self hl] at q
      cases q
      exact .inl ⟨rfl, rfl⟩
    · rw [List.getElem?_set_ne (Ne.symm z)] at q
      exact .inr ⟨z, q⟩
  have set_dat : ∀ {ρ : Rho} {w0 : Ow} {i : Nat} {d : D}, j < ρ.length → (ρ.set j (.own w0))[i]? = some (.dat d) → ρ[i]? = some (.dat d) := fun {ρ w0 i d} hl q => by
    by_cases z : i = j
    · subst z
      rw [List.getElem?_set_self hl] at q
      cases q
    · rw [List.getElem?_set_ne (Ne.symm z)] at q
      exact q
  have up1 : Same F (upd F a fz) := sameNew Fa
  have na : ∀ {i : Nat} {w : Ow} {b : Addr}, i ≠ j → ρ[i]? = some (.own w) → b ∈ fp i → b ≠ a := fun {i w b} ne q m z => ne (sf.sep i j w _ a q he (z ▸ m) ma)
  have s' : SimF c' (upd F a fz) (upd H a fz) σ (ρ.set j (.own (.dF kvs))) (fun i => if i = j then [] else fp i) := by
    refine ⟨fun b o q => ?_, fun b o q => ?_, fun b o q w => ?_, fun b q => ?_, fun b q q2 => ?_, fun i b m => ?_, fun i d q => ?_, fun i w q => ?_, fun i w b q m => ?_, fun i k w w' b q q' m m' => ?_, by rw [List.length_set]; exact sf.len, fun i w b q m i' m' => ?_, fun i b m => ?_, fun P hP => ?_, sf.tw⟩
    · by_cases z : b = a
      · subst z; rw [show c'.F0 b = upd c.F0 b fz b from rfl, upd_same] at q; rw [upd_same]; exact q
      · rw [show c'.F0 b = upd c.F0 a fz b from rfl, upd_ne z] at q; rw [upd_ne z]; exact sf.f0 b o q
    · by_cases z : b = a
      · subst z; rw [upd_same] at q ⊢; exact q
      · rw [upd_ne z] at q ⊢; exact sf.fh b o q
    · by_cases z : b = a
      · subst z; rw [show c'.B b = upd c.B b fz b from rfl, upd_same] at q; rw [upd_same]; exact q
      · rw [show c'.B b = upd c.B a fz b from rfl, upd_ne z] at q; rw [upd_ne z]; exact sf.keep b o q w
    · by_cases z : b = a
      · subst z; rw [upd_same]; simp
      · rw [show c'.B b = upd c.B a fz b from rfl, upd_ne z] at q; rw [upd_ne z]; exact sf.dom b q
    · by_cases z : b = a
      · subst z; rw [show c'.F0 b = upd c.F0 b fz b from rfl, upd_same] at q2; cases q2
      · rw [show c'.B b = upd c.B a fz b from rfl, upd_ne z] at q; rw [show c'.F0 b = upd c.F0 a fz b from rfl, upd_ne z] at q2; rw [upd_ne z]; exact sf.av b q q2
    · rcases List.mem_cons.mp m with z | z
      · cases z; exact e1
      · exact sf.par i b z
    · obtain ⟨v, h1, h2⟩ := sf.dat i d (set_dat hj q)
      exact ⟨v, h1, dpUp up1 h2⟩
    · rcases set_own hj q with ⟨rfl, rfl⟩ | ⟨ne, q⟩
      · exact ⟨a, e1, if_pos rfl, od, xs, upd_same, pairedMap e4 fun p r _ z => ⟨z.1, dpUp up1 z.2⟩⟩
      · obtain ⟨b, h1, h2⟩ := sf.own i w q
        refine ⟨b, h1, ?_⟩
        rw [if_neg ne]
        exact h2.up up1 fun z m => upd_ne (na ne q m)
    · rcases set_own hj q with ⟨rfl, rfl⟩ | ⟨ne, q⟩
      · rw [if_pos rfl] at m; cases m
      · rw [if_neg ne] at m
        obtain ⟨h1, h2, h3⟩ := sf.ownF i w b q m
        have nb := na ne q m
        exact ⟨by rw [upd_ne nb]; exact h1, by rw [upd_ne nb]; exact h2, by rw [show c'.B b = upd c.B a fz b from rfl, upd_ne nb]; exact h3⟩
    · rcases set_own hj q with ⟨rfl, rfl⟩ | ⟨ne, q⟩
      · rw [if_pos rfl] at m; cases m
      · rcases set_own hj q' with ⟨rfl, rfl⟩ | ⟨ne', q'⟩
        · rw [if_pos rfl] at m'; cases m'
        · rw [if_neg ne] at m; rw [if_neg ne'] at m'
          exact sf.sep i k w w' b q q' m m'
    · rcases set_own hj q with ⟨rfl, rfl⟩ | ⟨ne, q⟩
      · rw [if_pos rfl] at m; cases m
      · rw [if_neg ne] at m
        rcases List.mem_cons.mp m' with z | z
        · cases z; exact absurd rfl (na ne q m)
        · exact sf.wp i w b q m i' z
    · rcases List.mem_cons.mp m with z | z
      · cases z; show upd c.B a fz a ≠ none; rw [upd_same]; simp
      · have q := sf.pb i b z
        have nb : b ≠ a := fun y => q (y ▸ Ba)
        show upd c.B a fz b ≠ none
        rw [upd_ne nb]; exact q
    · show upd c.B a fz P = _
      rw [upd_ne (ne_of_none (sf.tb P hP) Ba)]
      exact sf.tb P hP
  refine h c' (upd F a fz) (upd H a fz) σ _ k' ⟨_, s'⟩ ⟨fun ρo F' H' σ' hP t ef => ?_, fun ρo F' H' σ' v r hP => ?_, fun ρo F' H' σ' hP => ?_, fun ρo F' H' σ' hP => ?_, fun ρo F' H' σ' C hP => ?_⟩
  case refine_2 => obtain ⟨_, _, z, _⟩ := hP; cases z
  case refine_3 => obtain ⟨_, _, z, _⟩ := hP; cases z
  case refine_4 => obtain ⟨_, _, z, _⟩ := hP; cases z
  case refine_5 => obtain ⟨_, _, z, _⟩ := hP; cases z
  obtain ⟨ρ', kvs', z, hd, hno, hP⟩ := hP
  cases z
  obtain ⟨fp', tf⟩ := t
  have Fa' : F' a = some (.frz od (.dK xs)) := ef a _ upd_same
  have Ha' : H' a = some fz := tf.fh a _ Fa'
  have hj' : j < ρo.length := (List.getElem?_eq_some_iff.mp hd).1
  have na' : ∀ {i : Nat} {w : Ow} {b : Addr}, ρo[i]? = some (.own w) → b ∈ fp' i → b ≠ a := fun {i w b} q m z => by
    have := (tf.ownF i w b q m).1
    rw [z, Fa'] at this
    cases this
  have nF : ∀ {i : Nat} {w : Ow}, i ≠ j → ρo[i]? = some (.own w) → ∀ ks, w ≠ .dF ks := fun {i w} ne q ks z => hno i ks (by rw [List.getElem?_set_ne (Ne.symm ne), q, z])
  refine ⟨Ha', pp.nx _ (offH F' a) (upd H' a (.dK xs)) σ' hP ⟨fun i => if i = j then [a] else fp' i, ?_⟩ fun b o q => ?_⟩
  · refine ⟨fun b o q => ?_, fun b o q => ?_, fun b o q w => ?_, fun b q => ?_, fun b q q2 => ?_, fun i b m => ?_, fun i d q => ?_, fun i w q => ?_, fun i w b q m => ?_, fun i k w w' b q q' m m' => ?_, by rw [List.length_set]; exact tf.len, fun i w b q m i' m' => ?_, sf.pb, sf.tb, sf.tw⟩
    · have nb : b ≠ a := fun z => by rw [z, F0a] at q; cases q
      rw [off_ne nb]
      exact tf.f0 b o (by show upd c.F0 a fz b = _; rw [upd_ne nb]; exact q)
    · obtain ⟨nb, q⟩ := off_some q
      rw [upd_ne nb]
      exact tf.fh b o q
    · have nb : b ≠ a := fun z => by rw [z, Ba] at q; cases q
      rw [upd_ne nb]
      exact tf.keep b o (by show upd c.B a fz b = _; rw [upd_ne nb]; exact q) w
    · have nb : b ≠ a := fun z => q (z ▸ Ba)
      rw [upd_ne nb]
      exact tf.dom b (by show upd c.B a fz b ≠ _; rw [upd_ne nb]; exact q)
    · have nb : b ≠ a := fun z => q (z ▸ Ba)
      rw [off_ne nb]
      exact tf.av b (by show upd c.B a fz b ≠ _; rw [upd_ne nb]; exact q) (by show upd c.F0 a fz b = _; rw [upd_ne nb]; exact q2)
    · exact tf.par i b (List.mem_cons_of_mem _ m)
    · obtain ⟨v, h1, h2⟩ := tf.dat i d (set_dat hj' q)
      exact ⟨v, h1, dpOff Fa' h2⟩
    · rcases set_own hj' q with ⟨rfl, rfl⟩ | ⟨ne, q⟩
      · obtain ⟨b, h1, _, od', xs', h2, h3⟩ := tf.own i _ hd
        have h4 := tf.par i a List.mem_cons_self
        rw [h1] at h4
        cases h4
        rw [Fa'] at h2
        cases h2
        exact ⟨_, h1, if_pos rfl, xs, upd_same, pairedMap h3 fun p r _ z => ⟨z.1, dpOff Fa' z.2⟩⟩
      · obtain ⟨b, h1, h2⟩ := tf.own i w q
        refine ⟨b, h1, ?_⟩
        rw [if_neg ne]
        exact owOff Fa' h2 (fun z m => upd_ne (na' q m)) (nF ne q)
    · rcases set_own hj' q with ⟨rfl, rfl⟩ | ⟨ne, q⟩
      · rw [if_pos rfl] at m
        have z : b = a := by simpa using m
        subst z
        exact ⟨if_pos rfl, by rw [upd_same]; simp, .inl Ba⟩
      · rw [if_neg ne] at m
        obtain ⟨h1, h2, h3⟩ := tf.ownF i w b q m
        have nb := na' q m
        exact ⟨by rw [off_ne nb]; exact h1, by rw [upd_ne nb]; exact h2, h3.imp (fun z => by rw [show c'.B b = upd c.B a fz b from rfl, upd_ne nb] at z; exact z) id⟩
    · rcases set_own hj' q with ⟨y1, y2⟩ | ⟨ne, q0⟩
      · rcases set_own hj' q' with ⟨y3, y4⟩ | ⟨ne', q0'⟩
        · rw [y1, y3]
        · rw [if_pos y1] at m; rw [if_neg ne'] at m'
          have z : b = a := by simpa using m
          exact absurd z (na' q0' m')
      · rw [if_neg ne] at m
        rcases set_own hj' q' with ⟨y3, y4⟩ | ⟨ne', q0'⟩
        · rw [if_pos y3] at m'
          have z : b = a := by simpa using m'
          exact absurd z (na' q0 m)
        · rw [if_neg ne'] at m'
          exact tf.sep i k w w' b q0 q0' m m'
    · rcases set_own hj' q with ⟨rfl, rfl⟩ | ⟨ne, q⟩
      · rw [if_pos rfl] at m
        have z : b = a := by simpa using m
        subst z
        exact absurd Ba (sf.pb i' b m')
      · rw [if_neg ne] at m
        exact tf.wp i w b q m i' (List.mem_cons_of_mem _ m')
  · have nb : b ≠ a := fun z => by rw [z, Fa] at q; cases q
    rw [off_ne nb]
    exact ef b o (up1 b o q)
section
variable {ti tx te : TE} {ρ ρ1 ρ2 : Rho} {i : Nat} {k : Key} {d z : D} {kvs kvs0 : List (Key × D)} {P : Out → Prop}
/-- d[k], d locked -/
theorem ed_lget (h0 : ρ[i]? = some (.own (.dF kvs0))) (hk : EvD g ti ρ (keyOf k) ρ1) (h1 : ρ1[i]? = some (.own (.dF kvs))) (hd : valD kvs k = some d) : EvD g (tDGet (tVar i) ti) ρ d ρ1 := fun c F H σ kk s Q q => by
  obtain ⟨fp, sf⟩ := id s
  obtain ⟨a, f1, _⟩ := sf.own i _ h0
  refine ⟨_, f1, hk c F H σ kk s _ fun v F1 H1 s1 e1 x => ?_⟩
  obtain ⟨fp1, sf1⟩ := id s1
  obtain ⟨a', g1, _, od, ys, g2, g3⟩ := sf1.own i _ h1
  have := some_inj2 f1 g1
  subst this
  rcases kd_val k g3 with ⟨z1, z2⟩ | ⟨v', d', z1, z2, z3⟩
  · rw [z2] at hd; cases hd
  · rw [hd] at z2
    cases z2
    refine ⟨a, v', rfl, ?_, q v' F1 H1 s1 e1 z3⟩
    rw [dp_key x, ← z1]
    exact .inl ⟨ys, k, .inr ⟨od, sf1.fh _ _ g2⟩, rfl, rfl⟩
/-- d.get(k, x) -/
theorem ed_dget2 (h0 : ρ[i]? = some (.own (.dK kvs0))) (hk : EvD g ti ρ (keyOf k) ρ1) (hx : EvD g tx ρ1 z ρ2) (h2 : ρ2[i]? = some (.own (.dK kvs))) : EvD g (tDGet2 (tVar i) ti tx) ρ ((valD kvs k).getD z) ρ2 := fun c F H σ kk s Q q => by
  obtain ⟨a, xs, f1, f2, f3, _⟩ := s.dkAt h0
  refine ⟨_, f1, a, rfl, .inl ⟨xs, .inl f2⟩, hk c F H σ kk s _ fun v F1 H1 s1 e1 x => hx c F1 H1 σ kk s1 _ fun u F2 H2 s2 e2 y => ?_⟩
  obtain ⟨a', ys, g1, g2, g3, _⟩ := s2.dkAt h2
  have := some_inj2 f1 g1
  subst this
  refine ⟨valV ys k, by rw [dp_key x]; exact DGet.k g2, ?_⟩
  rcases kd_val k g3 with ⟨z1, z2⟩ | ⟨v', d', z1, z2, z3⟩
  · rw [z1]; rw [z2] at q
    exact q u F2 H2 s2 (e1.trans e2) y
  · rw [z1]; rw [z2] at q
    exact q v' F2 H2 s2 (e1.trans e2) z3
/-- a locked dict, gone through -/
theorem ei_keys (h0 : ρ[i]? = some (.own (.dF kvs))) : EvI g (iKeys (tVar i)) ρ (kvs.map fun p => keyOf p.1).length (nthD (kvs.map fun p => keyOf p.1)) ρ := fun c F H σ kk s R q => by
  obtain ⟨fp, sf⟩ := id s
  obtain ⟨a, f1, _, od, xs, f2, f3⟩ := sf.own i _ h0
  have hl := kd_len f3
  refine ⟨_, f1, a, od, rfl, .inl ⟨xs, sf.fh _ _ f2, q _ F H s (Same.refl _) fun F2 H2 e1 e2 => ?_⟩⟩
  have k2 : H2 a = some (.frz od (.dK xs)) := e2 _ _ (e1 _ _ f2)
  rw [List.length_map]
  refine ⟨fun n hn => ⟨k2, by omega⟩, ⟨k2, by omega⟩, fun n x H' hn y => ?_⟩
  obtain ⟨rfl, k, v, hk, rfl⟩ := y
  obtain ⟨d, hd, _⟩ := kd_get f3 hk
  have e : nthD (kvs.map fun p => keyOf p.1) n = keyOf k := by
    unfold nthD
    rw [List.getD_eq_getElem?_getD, List.getElem?_map, hd]
    rfl
  rw [e]
  refine ⟨F2, .at ?_⟩
  cases k with
  | inl m => exact .int m
  | inr m => exact .str m
/-- a thing of one's own gets another name -/
theorem sv_move {j : Nat} {w : Ow} (he : ρ[j]? = some (.own w)) (hw : ∀ ks, w ≠ .dF ks) (h : P (.nx ((ρ.set j .no).set i (.own w)))) (hi : i < ρ.length) (hp : i ∉ g.ps) (hq : j ∉ g.ps) : Sv g (tAsg (tVar j) (gName i)) ρ P := fun c F H σ E kk s p => by
  obtain ⟨fp, sf⟩ := id s
  obtain ⟨a, e1, e2⟩ := sf.own j _ he
  have sh := sf.hide j
  refine ⟨.ref a, e1, ?_⟩
  refine p.nx _ F H _ h (sh.setOwn e2 (fun b m => ?_) (fun k w' b q m m' => ?_) (by simpa using hi) (notP kk hp)) (Same.refl _)
  · obtain ⟨h1, h2, h3⟩ := sf.ownF j w b he m
    refine ⟨h1, h2, h3.resolve_right fun w => ?_⟩
    obtain ⟨j', hj'⟩ := kk.wp b w
    have := sf.wp j _ b he m j' hj'
    subst this
    exact notP kk hq b hj'
  · obtain ⟨ne, q'⟩ := hide_own q
    exact ne (sf.sep k j w' w b q' he m' m)
/-- x += n -/
theorem sv_aug {m n : Int} (h0 : ρ[i]? = some (.dat (.int m))) (he : EvD g te ρ (.int n) ρ1) (h : P (.nx (ρ1.set i (.dat (.int (m + n)))))) (hi : i < ρ1.length) (hp : i ∉ g.ps) : Sv g (tAug i te (ipI fun i j => i + j)) ρ P := fun c F H σ E kk s p => by
  obtain ⟨v, f1, f2⟩ := s.dat h0
  cases f2
  refine ⟨_, f1, he c F H σ kk.ok s _ fun u F1 H1 s1 e1 x => ?_⟩
  cases x
  exact ⟨m, n, rfl, rfl, p.nx _ F1 H1 _ h (s1.setDat (.int _) hi (notP kk hp)) e1⟩
/-- a list's truth -/
theorem et_tru {A : Arg} {ds : List D} (ha : EvO g te ρ A ρ1) (hd : A.den ρ1 = some (.list ds)) : EvT g (fun σ H Q => te σ H fun x H' => ∃ k, TruV g.K x H' k ∧ Q k H') ρ (!ds.isEmpty) ρ1 := fun c F H σ kk s Q q => ha c F H σ kk s _ fun v F1 H1 s1 e1 x => by
  have kk1 : c.K = g.K := kk.1
  have o := Arg.opd s1 x hd
  rw [kk1] at o
  obtain ⟨p, vs, rfl, h1, h2⟩ := o.list s1.fh
  refine ⟨_, .inl ⟨vs, h1, rfl⟩, ?_⟩
  have : vs.isEmpty = ds.isEmpty := by
    have := dpAllLen h2
    cases vs <;> cases ds <;> simp_all
  rw [this]
  exact q F1 H1 s1 e1
end
end DL
namespace DL
open PySem PySem.Spec PyProof.Rows L2
end DL
namespace DL
open PySem PySem.Spec PyProof.Rows L2
variable [TabC]
variable {g : Gm}
def EvX (g : Gm) (ES : L2.St → XK) (te : TE) (ρ : Rho) (C : Addr) (ρ' : Rho) : Prop := ∀ (c : Cc) (F H : Hp) (σ : L2.St), c.ok g → Sim c F H σ ρ → ∀ Q : VK, (∀ F' H', Sim c F' H' σ ρ' → Same F F' → ES σ (.ref C) none H') → te σ H Q
section
variable {t : TA} {te : TE} {ρ ρ1 : Rho} {As : List Arg} {ds : List D} {d : D} {ES : L2.St → XK} {C : Addr}
theorem ed_callXS {R : List D → RetX → Prop} (ha : EvA g t ρ As ρ1) (hR : R ds (.ok (.dat d))) (hd : datas As = some ds) : EvD g (tCallS (spX R g.K) ES t) ρ d ρ1 := fun c F H σ k s Q q =>
  ha c F H σ k s _ fun vs F1 H1 s1 e1 h1 => by
    have kk : c.K = g.K := k.1
    obtain ⟨fp, sf⟩ := id s1
    rw [← kk]
    refine ⟨F1, ds, .ok (.dat d), s1.ft, h1.datas hd, hR, fun v F' H' t r => ?_⟩
    exact q v F' H' ⟨fp, sf.after t⟩ (e1.trans t.f0) r
theorem ex_callXS {R : List D → RetX → Prop} (ha : EvA g t ρ As ρ1) (hR : R ds (.exc C)) (hd : datas As = some ds) : EvX g ES (tCallS (spX R g.K) ES t) ρ C ρ1 := fun c F H σ k s Q q =>
  ha c F H σ k s _ fun vs F1 H1 s1 e1 h1 => by
    have kk : c.K = g.K := k.1
    obtain ⟨fp, sf⟩ := id s1
    rw [← kk]
    refine ⟨F1, ds, .exc C, s1.ft, h1.datas hd, hR, fun F' H' t => ?_⟩
    exact q F' H' ⟨fp, sf.after t⟩ (e1.trans t.f0)
/-- the first argument lets it out -/
theorem ex_arg {sp : Sp} {dvs : List V} {E : XK} {tr : TA} (h : EvX g ES te ρ C ρ1) : EvX g ES (tCall sp dvs E (tCons te tr)) ρ C ρ1 := fun c F H σ k s Q q => h c F H σ k s _ q
theorem ex_lst {tr : TA} (h : EvX g ES te ρ C ρ1) : EvX g ES (tLst (tCons te tr)) ρ C ρ1 := fun c F H σ k s Q q => h c F H σ k s _ q
end
/-- what f, the names of the kinds, promises -/
def spK (K : PySem.W.Frag) (kd : List (Addr × Str)) (cls : Value) (d : Option Addr) (a : Addr) : Sp := fun vs H Q _ => ∃ (Da : Addr) (b : Addr → Bool), vs = [.ref a] ∧ cls = .ref Da ∧ d = none ∧ ExcC K Da ∧ (∀ q ∈ kd, PySem.W.kitOne K (.ref Da) (.ref q.1) = some (b q.1)) ∧
  ∀ p, H p = none → Q (.ref p) (upd H p (.lst ((kd.filter fun q => b q.1).map fun q => V.str q.2)))
def tKind (K : PySem.W.Frag) (kd : List (Addr × Str)) (i : Nat) : Addr → Value → Option Addr → TS := fun a cls d => tRet (tCall (spK K kd cls d a) [] E0 (tCons (tVar i) tNil))
/-- names for a class -/
def KindOk (K : PySem.W.Frag) (S : Addr) (kd : List (Addr × Str)) (C : Addr) (ws : List Str) : Prop :=
  ExcC K C ∧ PySem.W.exmOne K (.ref C) (.ref S) = some true ∧ ∃ b : Addr → Bool, (∀ q ∈ kd, PySem.W.kitOne K (.ref C) (.ref q.1) = some (b q.1)) ∧ ws = (kd.filter fun q => b q.1).map (·.2)
theorem dp_strL {K : PySem.W.Frag} {F : Hp} : ∀ ws : List Str, DxAll K F (ws.map V.str) (ws.map PyData.str)
  | [] => .nil
  | x :: ws => .cons (.str x) (dp_strL ws)
/-- what stands in the air is told by its names -/
theorem kind_lands {c : Cc} {F H F' H' : Hp} {σ : L2.St} {ρ ρ' : Rho} {D : Ends} {P : Out → Prop} {S C : Addr} {kd : List (Addr × Str)} {ws : List Str} {i : Nat} (hk : KindOk g.K S kd C ws) (p : Post g c D F P) (hP : P (.rt ρ' (.new (.lst (ws.map PyData.str))))) (hi : i < σ.length) (s : Sim c F' H' σ ρ') (e : Same F F') :
    wAs g.K (.ref S) i (tKind g.K kd i) (fun _ _ _ _ => False) D (.ref C) none σ H' := by
  obtain ⟨hC, hm, b, hb, rfl⟩ := hk
  refine ⟨true, hm, fun _ a na => ?_, fun z => nomatch z⟩
  refine ⟨_, List.getElem?_set_self hi, C, b, rfl, rfl, rfl, hC, hb, fun q hq => ?_⟩
  have e2 : ((kd.filter fun q => b q.1).map fun q => V.str q.2) = ((kd.filter fun q => b q.1).map (·.2)).map V.str := by rw [List.map_map]; rfl
  rw [e2]
  refine p.rt _ _ _ σ _ _ hP (s.heap hq) e ⟨q, [q], rfl, ⟨rfl, _, upd_same, dp_strL _⟩, fun z m => ?_⟩
  have y : z = q := by simpa using m
  subst y
  refine ⟨freeF s.fh hq, by rw [upd_same]; simp, ?_⟩
  obtain ⟨fp, sf⟩ := s
  cases y : c.B z with
  | none => rfl
  | some u => exact absurd hq (sf.dom z (by simp [y]))
end DL
namespace DL
open PySem PySem.Spec PyProof.Rows L2
variable [TabC]
section
variable {prog : Program} {w : World} {A : Around} {E : Value → Shared → Prop} {s : Shared}
theorem adj_rev (n : Nat) : Builtin.Slice.sliceAdjust none none (-1) (n : Int) = ((n : Int) - 1, -1) := by
  unfold Builtin.Slice.sliceAdjust
  have h : ((-1 : Int) < 0) = True := by simp
  simp only [h, if_true]
theorem places_rev (n : Nat) : Builtin.Slice.slicePlaces ((n : Int) - 1) (-1) (-1) = n := by
  unfold Builtin.Slice.slicePlaces
  rw [if_neg (by decide)]
  by_cases q : (n : Int) - 1 > -1
  · rw [if_pos q, show (- -1 : Int) = 1 from rfl, Int.ediv_one]; omega
  · rw [if_neg q]; omega
theorem applied_rev {sl : Addr} {vl vu vs : Value} {n : Nat} {Q : Int × Int × Nat → Shared → Prop} (hs : s.heap.IsSliceOf sl vl vu vs) (pl : IsPart vl none) (pu : IsPart vu none) (ps : IsPart vs (some (-1))) (h : Q ((n : Int) - 1, -1, n) s) :
    wpAny (model prog w) A (Builtin.Slice.sliceApplied (.ref sl) (pure (n : Int))) Q E s := by
  have ⟨os, ho, _, hd⟩ := hs
  unfold Builtin.Slice.sliceApplied
  unfold Builtin.Slice.sliceFields
  apply wpAny_bind; apply wpAny_bind
  refine wpAny_field ho hd (x := vl) rfl ?_
  apply wpAny_bind
  refine wpAny_field ho hd (x := vu) rfl ?_
  apply wpAny_bind
  refine wpAny_field ho hd (x := vs) rfl (wpAny_pure ?_)
  apply wpAny_bind
  refine HT.slicePart_ ps ?_
  show wpAny _ _ (if ((-1 : Int) == 0) = true then _ else _) _ _ s
  rw [if_neg (by decide)]
  apply wpAny_bind
  refine HT.slicePart_ pl ?_
  apply wpAny_bind
  refine HT.slicePart_ pu ?_
  apply wpAny_bind
  apply wpAny_pure
  show wpAny _ _ (match Builtin.Slice.sliceAdjust none none (-1) (n : Int) with | (lo, hi) => pure (lo, (-1 : Int), Builtin.Slice.slicePlaces lo hi (-1))) _ _ s
  rw [adj_rev]
  show wpAny _ _ (pure ((n : Int) - 1, (-1 : Int), Builtin.Slice.slicePlaces ((n : Int) - 1) (-1) (-1))) _ _ s
  rw [places_rev]
  exact wpAny_pure h
theorem fm_congr {α β : Type} {f g : α → Option β} : ∀ l : List α, (∀ k ∈ l, f k = g k) → l.filterMap f = l.filterMap g
  | [], _ => rfl
  | k :: l, h => by rw [List.filterMap_cons, List.filterMap_cons, h k List.mem_cons_self, fm_congr l fun z m => h z (List.mem_cons_of_mem _ m)]
theorem pick_rev (xs : Array Value) : (List.range xs.size).filterMap (fun k : Nat => xs[((xs.size : Int) - 1 + (k : Int) * (-1)).toNat]?) = xs.toList.reverse := by
  have e : (List.range xs.size).filterMap (fun k : Nat => xs[((xs.size : Int) - 1 + (k : Int) * (-1)).toNat]?) = ((List.range xs.size).map fun k => xs.size - 1 - k).filterMap (xs[·]?) := by
    rw [List.filterMap_map]
    refine fm_congr _ fun k m => ?_
    have := List.mem_range.mp m
    show _ = xs[xs.size - 1 - k]?
    congr 1
    omega
  rw [e, PySem.W.krv_range, List.filterMap_reverse, PySem.W.krv_all]
theorem item_rev {t sl : Addr} {items : Array Value} {vl vu vs : Value} {Q : Value → Shared → Prop} (ht : IsTup s.heap t items) (hs : s.heap.IsSliceOf sl vl vu vs) (pl : IsPart vl none) (pu : IsPart vu none) (ps : IsPart vs (some (-1)))
    (h : Q (.ref s.heap.objs.size) { s with heap := s.heap.push { cls := .type "tuple", data := .seq items.toList.reverse.toArray } }) (hz : items.size ≤ sizeLine) : wpAny (model prog w) A (getItem (.ref t) (.ref sl)) Q E s := by
  have ⟨os, ho, hc, _⟩ := hs
  have hT : s.TypeIs (.ref sl) "slice" := ⟨os, ho, hc⟩
  have ok : sizeOk (.seq items.toList.reverse.toArray) := by
    show items.toList.reverse.toArray.size ≤ sizeLine
    simpa using hz
  unfold getItem
  first | (with_reducible apply wpAny_holding) | skip
  first | (refine wpAny_bind (wpAny_pure ?_)) | skip
  apply wpAny_bind; refine wpAny_sequenceKey ht.typeIs (by decide) ?_
  apply wpAny_bind
  apply wpAny_callSpecial?_slot (name := Str.ofString "__getitem__") ht.typeIs slot_tuple_getitem
  refine wpAny_call_entry slot_tuple_getitem ht.typeIs entry_tuple_getitem ?_ (args_tuple_getitem _ _)
  show wpAny _ _ (Builtin.Tuple.tupleItemsOf (.ref t) >>= _) _ _ s
  apply wpAny_bind; refine tupleItemsOf_ ht ?_
  apply wpAny_bind; refine wpAny_typeOf hT ?_
  rw [if_pos (by decide)]
  apply wpAny_bind; refine applied_rev hs pl pu ps ?_
  have no : ¬ ((((items.size : Int) - 1 == 0) && ((-1 : Int) == 1) && (items.size == items.size)) = true) := by
    intro q
    rw [Bool.and_eq_true, Bool.and_eq_true] at q
    exact absurd q.1.2 (by decide)
  show wpAny _ _ (if (((items.size : Int) - 1 == 0) && ((-1 : Int) == 1) && (items.size == items.size)) = true then _ else _) _ _ s
  rw [if_neg no, pick_rev]
  first
    | exact wpAny_bind (m := Builtin.Tuple.tupleExact _) (wpAny_newObj_type (wpAny_pure ⟨_, rfl, wpAny_pure h⟩) ok)
    | exact wpAny_bind (m := Builtin.Tuple.tupleExact _) (wpAny_newObj_type (wpAny_bind (wpAny_pure (wpAny_pure ⟨_, rfl, wpAny_pure h⟩))) ok)
    | exact wpAny_bind (wpAny_bind (m := Builtin.Tuple.tupleExact _) (wpAny_newObj_type (wpAny_pure (wpAny_pure ⟨_, rfl, wpAny_pure h⟩)) ok))
    | exact wpAny_bind (wpAny_bind (m := Builtin.Tuple.tupleExact _) (wpAny_newObj_type (wpAny_pure ⟨_, rfl, wpAny_pure h⟩) ok))
end
/-- .. the value is a new tuple -/
def tRevT (K : PySem.W.Frag) (te : TE) : TE := fun σ H Q => te σ H fun x H1 => ∃ a xs, x = .ref a ∧ SqT K H1 a xs ∧ NewT H1 Q xs.reverse
section
variable {X : Cx}
theorem pe_revT {e : Expr} {te : TE} {k : Nat} {p1 p2 p3 pos : Pos} (he : PE X e te) : PE X (.Subscript e (.Slice none none (some (.UnaryOp .USub (.Constant (.int 1) k p1) p2)) p3) pos) (tRevT X.K te) := by
  constructor
  intro pins s σ H Q I h
  apply Subscript_
  refine thn (he.run pins s σ H _ I h) ?_
  rintro v s1 ⟨x, H1, I1, r1, a, xs, rfl, hx, q⟩
  cases r1
  have m1 : PO X (some (.UnaryOp .USub (.Constant (.int 1) k p1) p2)) (tPart (tUn (rU fun i => .int (-i)) (tC (.int 1)))) := po_some (pe_un un_neg pe_int)
  apply wpAny_Slice
  refine thn (po_none.run pins s1 σ H1 (fun o G => o = none ∧ G = H1) I1 ⟨rfl, rfl⟩) ?_
  rintro vl s2 ⟨_, _, I2, pl, rfl, rfl⟩
  refine thn (po_none.run pins s2 σ _ (fun o G => o = none ∧ G = _) I2 ⟨rfl, rfl⟩) ?_
  rintro vu s3 ⟨_, _, I3, pu, rfl, rfl⟩
  refine thn (m1.run pins s3 σ _ (fun o G => o = some (-1) ∧ G = _) I3 ⟨1, rfl, -1, rfl, rfl, rfl⟩) ?_
  rintro vs s4 ⟨_, _, I4, ps, rfl, rfl⟩
  have I5 := I4.kept (h' := s4.heap.push { cls := .type "slice", data := .fields #[vl, vu, vs] }) (t' := s4.toks) fun b ob z => Heap.get?_push_of_some _ z
  obtain ⟨its, r, ht, hz⟩ := I5.tuple hx
  refine tail_any (ops := [.ref a, .ref s4.heap.objs.size]) ht.typeIs (slot_tuple_getitem.lookup) ?_ (by with_unfolding_all rfl)
  have hs : (s4.heap.push { cls := .type "slice", data := .fields #[vl, vu, vs] }).IsSliceOf s4.heap.objs.size vl vu vs := Heap.IsSliceOf.new _ vl vu vs
  have hn : its.length = xs.length := r.length.symm
  refine item_rev (s := { s4 with heap := s4.heap.push { cls := .type "slice", data := .fields #[vl, vu, vs] } }) ht hs pl pu ps ?_ (by rw [List.size_toArray, hn]; exact hz)
  exact Inv.laidE (Q := Q) I5 r.reverse (by rw [List.length_reverse]; exact hz) q
end
section
variable {g : Gm} {te : TE} {ρ ρ1 : Rho} {ds : List D}
theorem dpAllRev {K : PySem.W.Frag} {F : Hp} : ∀ {vs : List V} {ds : List D}, DxAll K F vs ds → DxAll K F vs.reverse ds.reverse
  | _, _, .nil => .nil
  | _, _, .cons h t => by
    rw [List.reverse_cons, List.reverse_cons]
    exact dpAllApp (dpAllRev t) (.cons h .nil)
theorem ed_revT (h : EvD g te ρ (.tuple ds) ρ1) : EvD g (tRevT g.K te) ρ (.tuple ds.reverse) ρ1 := fun c F H σ k s Q q => h c F H σ k s _ fun v F1 H1 s1 e1 x => by
  have kk : c.K = g.K := k.1
  rw [kk] at x
  obtain ⟨a, vs, rfl, tx, al⟩ := Opd.tupX s1.fh (.inl x)
  refine ⟨a, vs, rfl, tx.old, fun p o hp hd => ?_⟩
  have e2 : Same F1 (upd F1 p (.frz o (.tup vs.reverse))) := sameNew (freeF s1.fh hp)
  refine q _ _ _ (s1.grow hp) (e1.trans e2) ?_
  rw [kk]
  exact .tup (.inl ⟨o, upd_same, hd⟩) (dpAllUp e2 (dpAllRev al))
theorem en_revL {A : Arg} (h : EvO g te ρ A ρ1) (hd : A.den ρ1 = some (.list ds)) : EvN g (tRevL g.K te) ρ ds.reverse ρ1 := fun c F H σ k s Q q => h c F H σ k s _ fun v F1 H1 s1 e1 x => by
  have kk : c.K = g.K := k.1
  have o := Arg.opd s1 x hd
  rw [kk] at o
  obtain ⟨a, vs, rfl, h1, h2⟩ := o.list s1.fh
  refine ⟨a, vs, rfl, h1, fun p hp => ?_⟩
  exact q p _ F1 H1 s1 e1 hp (by rw [kk]; exact dpAllRev h2)
end
end DL
namespace DL
open PySem PySem.Spec PyProof.Rows L2
variable [TabC]
def rSetIT (K : PySem.W.Frag) (w : World) : List V → Hp → VK → Prop := fun vs H Q => ∃ (l : Addr) (ns : List Int), vs = [.ref l] ∧ SqT K H l (ns.map V.int) ∧ ns.length ≤ 1000 ∧ ∀ (p : Addr) (c : Nat), c ≤ ns.length → H p = none → Q (.ref p) (upd H p (SetO w p (fun j => decide (j ∈ ns)) c))
/-- .. ascending, each once -/
def asc (ns : List Int) : List Int := (ns.eraseDups).mergeSort (fun a b => decide (a ≤ b))
theorem asc_one : ∀ {a b : List Int}, a.Pairwise (· < ·) → b.Pairwise (· < ·) → (∀ k, k ∈ a ↔ k ∈ b) → a = b
  | [], [], _, _, _ => rfl
  | [], y :: b, _, _, h => absurd ((h y).mpr List.mem_cons_self) (by simp)
  | x :: a, [], _, _, h => absurd ((h x).mp List.mem_cons_self) (by simp)
  | x :: a, y :: b, ha, hb, h => by
    obtain ⟨a1, a2⟩ := List.pairwise_cons.mp ha
    obtain ⟨b1, b2⟩ := List.pairwise_cons.mp hb
    have e : x = y := by
      rcases List.mem_cons.mp ((h x).mp List.mem_cons_self) with z | z
      · exact z
      · rcases List.mem_cons.mp ((h y).mpr List.mem_cons_self) with u | u
        · exact u.symm
        · have := a1 y u
          have := b1 x z
          omega
    subst e
    rw [asc_one a2 b2 fun k => ⟨fun m => ?_, fun m => ?_⟩]
    · rcases List.mem_cons.mp ((h k).mp (List.mem_cons_of_mem _ m)) with z | z
      · have := a1 k m; omega
      · exact z
    · rcases List.mem_cons.mp ((h k).mpr (List.mem_cons_of_mem _ m)) with z | z
      · have := b1 k m; omega
      · exact z
section
variable {g : Gm} {te : TE} {ρ ρ1 : Rho}
/-- what comes is the one ascending list of them -/
theorem en_srtSet {w : World} {ns zs : List Int} (h : EvD g te ρ (.tuple (ns.map .int)) ρ1) (hz : ns.length < 64) (hs : zs.Pairwise (· < ·)) (hm : ∀ k, k ∈ zs ↔ k ∈ ns) : EvN g (tCB (rSortedSet w) (tCons (tCB (rSetIT g.K w) (tCons te tNil)) tNil)) ρ (zs.map .int) ρ1 := fun c F H σ k s Q q => h c F H σ k s _ fun v F1 H1 s1 e1 x => by
  have kk : c.K = g.K := k.1
  rw [kk] at x
  obtain ⟨a, vs, rfl, tx, al⟩ := Opd.tup s1.fh (.inl x)
  cases dp_ints al
  refine ⟨a, ns, rfl, tx, by omega, fun p n hn hp => ⟨p, fun j => decide (j ∈ ns), n, rfl, upd_same, by omega, fun out p2 h1 h2 h3 hp2 => ?_⟩⟩
  have e : out = zs := asc_one h1 hs fun j => by rw [h2 j, hm j]; exact decide_eq_true_iff
  subst e
  have ne : p2 ≠ p := fun z => by rw [z, upd_same] at hp2; cases hp2
  have s2 := s1.heap (o := SetO w p (fun j => decide (j ∈ ns)) n) hp
  exact q p2 _ F1 _ s2 e1 hp2 (dpInts _)
end
end DL
namespace DL
open PySem PySem.Spec PyProof.Rows L2
variable [TabC]
def rSw (e : Bool) : V → List V → Hp → VK → Prop := fun x xs H Q => ∃ a b, x = V.str a ∧ xs = [V.str b] ∧ Q (.bl (if e then Txt.endswith a b else Txt.startswith a b)) H
theorem rm_sw {K : PySem.W.Frag} {e : Bool} {a b : Str} : RMD K (rSw e) (.str a) [.str b] (.bool (if e then Txt.endswith a b else Txt.startswith a b)) := fun F H x xs Q f p r q => by
  obtain ⟨v, rfl, r1⟩ := r.one
  exact ⟨a, b, p.str, by rw [r1.str], q _ F H (.at (.bl _))⟩
end DL
namespace DL
open PySem PySem.Spec PyProof.Rows L2
variable [TabC]
variable {K : PySem.W.Frag} {g : Gm} {X : Cx}
def kvE (kvs : List (Key × D)) : List (D × D) := kvs.map fun p => (keyOf p.1, p.2)
def unK : List (D × D) → Option (List (Key × D))
  | [] => some []
  | (x, d) :: r => (keyD x).bind fun k => (unK r).map ((k, d) :: ·)
def dictOf : D → Option (List (Key × D))
  | .dict ds => unK ds
  | _ => none
theorem unK_E : ∀ kvs : List (Key × D), unK (kvE kvs) = some kvs
  | [] => rfl
  | (k, d) :: r => by
    have h : keyD (keyOf k) = some k := by cases k <;> rfl
    show (keyD (keyOf k)).bind _ = _
    rw [h]
    show (unK (kvE r)).map _ = _
    rw [unK_E r]
    rfl
theorem kv_un {F : Hp} : ∀ {xs : List (Key × V)} {ds : List (D × D)} {kvs : List (Key × D)}, DxKv K F xs ds → unK ds = some kvs → KD K F xs kvs
  | _, _, _, .nil, h => by cases h; exact .nil
  | _, _, _, .cons (k := k) hv t, h => by
    have hk : keyD (keyOf k) = some k := by cases k <;> rfl
    have h : (keyD (keyOf k)).bind _ = _ := h
    rw [hk] at h
    obtain ⟨ms, hm, e⟩ := Option.map_eq_some_iff.mp (show (unK _).map _ = _ from h)
    subst e
    exact .cons ⟨rfl, hv⟩ (kv_un t hm)
theorem kv_of {F : Hp} : ∀ {xs : List (Key × V)} {kvs : List (Key × D)}, KD K F xs kvs → DxKv K F xs (kvE kvs)
  | _, _, .nil => .nil
  | (k, v) :: _, (k', d) :: _, .cons h t => by
    obtain ⟨h1, h2⟩ := h
    have h1 : k = k' := h1
    subst h1
    exact .cons h2 (kv_of t)
theorem dx_dict {F : Hp} {v : V} {d : D} {kvs : List (Key × D)} (h : Dx K F v d) (e : dictOf d = some kvs) : ∃ a xs, v = .ref a ∧ F a = some (.dK xs) ∧ KD K F xs kvs := by
  cases h with
  | dct h1 h2 => exact ⟨_, _, rfl, h1, kv_un h2 e⟩
  | fn a => cases e
  | _ => cases e
/-- a new dict is put down as data -/
theorem ed_ofWd {te : TE} {ρ ρ1 : Rho} {kvs : List (Key × D)} (h : EvW g te ρ (.dK kvs) ρ1) : EvD g te ρ (.dict (kvE kvs)) ρ1 := fun c F H σ k s Q q => h c F H σ k s _ fun a F' H' ⟨f, fp, s', hr, hf, no⟩ e => by
  obtain ⟨rfl, xs, h1, h2⟩ := hr
  obtain ⟨k1, k2, k3⟩ := hf a (by simp)
  have e2 : Same F' (upd F' a (.dK xs)) := sameNew k1
  exact q _ _ H' ⟨fp, s'.freeze h1 k3 (fun i w z m => no i w a z (by simp) m) k1⟩ (e.trans e2) (.dct upd_same (dpKvUp e2 (kv_of h2)))
section
variable {ta tb : TE} {ρ ρ1 ρ2 : Rho} {d e z : D} {kvs : List (Key × D)} {k : Key}
theorem ed_dinD (hk : EvD g ta ρ (keyOf k) ρ1) (hd : EvD g tb ρ1 d ρ2) (e : dictOf d = some kvs) : EvD g (tDIn ta tb) ρ (.bool (valD kvs k).isSome) ρ2 := fun c F H σ kk s Q q => hk c F H σ kk s _ fun v F1 H1 s1 e1 x => hd c F1 H1 σ kk s1 _ fun w F2 H2 s2 e2 y => by
  obtain ⟨a, xs, rfl, f2, f3⟩ := dx_dict y e
  refine ⟨a, valV xs k, rfl, ?_, ?_⟩
  · rw [dp_key x]
    exact DGet.k (s2.fh _ _ f2)
  · rcases kd_val k f3 with ⟨z1, z2⟩ | ⟨v', d', z1, z2, _⟩ <;> rw [z1] <;> rw [z2] at q <;> exact q _ F2 H2 s2 (e1.trans e2) (.bl _)
theorem ed_dninD (hk : EvD g ta ρ (keyOf k) ρ1) (hd : EvD g tb ρ1 d ρ2) (e : dictOf d = some kvs) : EvD g (tDNotIn ta tb) ρ (.bool (!(valD kvs k).isSome)) ρ2 := fun c F H σ kk s Q q => hk c F H σ kk s _ fun v F1 H1 s1 e1 x => hd c F1 H1 σ kk s1 _ fun w F2 H2 s2 e2 y => by
  obtain ⟨a, xs, rfl, f2, f3⟩ := dx_dict y e
  refine ⟨a, valV xs k, rfl, ?_, ?_⟩
  · rw [dp_key x]
    exact DGet.k (s2.fh _ _ f2)
  · rcases kd_val k f3 with ⟨z1, z2⟩ | ⟨v', d', z1, z2, _⟩ <;> rw [z1] <;> rw [z2] at q <;> exact q _ F2 H2 s2 (e1.trans e2) (.bl _)
theorem ed_dgetD (hd : EvD g ta ρ d ρ1) (hk : EvD g tb ρ1 (keyOf k) ρ2) (e : dictOf d = some kvs) (hv : valD kvs k = some z) : EvD g (tDGet ta tb) ρ z ρ2 := fun c F H σ kk s Q q => hd c F H σ kk s _ fun w F1 H1 s1 e1 y => hk c F1 H1 σ kk s1 _ fun v F2 H2 s2 e2 x => by
  obtain ⟨a, xs, rfl, f2, f3⟩ := dx_dict y e
  rcases kd_val k f3 with ⟨z1, z2⟩ | ⟨v', d', z1, z2, z3⟩
  · rw [z2] at hv; cases hv
  · rw [z2] at hv
    cases hv
    refine ⟨a, v', rfl, ?_, q _ F2 H2 s2 (e1.trans e2) (dpUp e2 z3)⟩
    rw [dp_key x, ← z1]
    exact DGet.k (s2.fh _ _ (e2 _ _ f2))
end
/-- list(d) of a dict -/
theorem rc_listK {d : D} {kvs : List (Key × D)} (e : dictOf d = some kvs) : RCN K rListD [d] (kvs.map fun p => keyOf p.1) := fun F H xs Q f a q => by
  obtain ⟨v, rfl, a1⟩ := a.one
  have x : Dx K F v d := by
    rcases a1 with x | ⟨_, _, _, _, rfl, _, _⟩
    · exact x
    · cases e
  obtain ⟨p, ys, rfl, h1, h2⟩ := dx_dict x e
  refine ⟨p, ys, rfl, f _ _ h1, fun t ht => q t _ ht ?_⟩
  clear h1 e x a1 a q
  induction h2 with
  | nil => exact .nil
  | cons h t ih =>
    rename_i p1 p2 _ _
    obtain ⟨k1, v1⟩ := p1
    obtain ⟨k2, d2⟩ := p2
    have h1 : k1 = k2 := h.1
    subst h1
    refine .cons ?_ ih
    cases k1 with
    | inl i => exact .int i
    | inr y => exact .str y
theorem ed_fn {ρ : Rho} {a : Addr} : EvD g (tC (.ref a)) ρ (fnD a) ρ := fun c F H σ kk s Q q => q _ F H s (Same.refl _) (.fn a)
def asFn : D → Option Addr
  | .dict [(.none, .int (.ofNat a))] => some a
  | _ => none
theorem asFn_eq {d : D} {a : Addr} (h : asFn d = some a) : d = fnD a := by
  unfold asFn at h
  split at h
  · cases h; rfl
  · cases h
theorem dx_fn {F : Hp} {v : V} {a : Addr} (h : Dx K F v (fnD a)) : v = .ref a := by
  unfold fnD at h
  generalize e : (PyData.int (a : Nat)) = y at h
  cases h with
  | dct h1 h2 =>
    exfalso
    generalize e2 : [(PyData.none, y)] = ds at h2
    cases h2 with
    | nil => cases e2
    | cons x t =>
      rename_i k _ _ _ _
      have := congrArg Prod.fst (List.cons.inj e2).1
      cases k <;> cases this
  | fn b =>
    have : (PyData.int (b : Nat)) = .int (a : Nat) := by first | exact e.symm | rfl
    have : (b : Int) = (a : Int) := by injection this
    have : b = a := Int.ofNat_inj.mp this
    rw [this]
def tblF (tbl : List (Addr × (List D → Option RetV))) (a : Addr) : Option (List D → Option RetV) := (tbl.find? fun q => decide (q.1 = a)).map (·.2)
def tCallF (K : PySem.W.Frag) (i : Nat) (tbl : List (Addr × (List D → Option RetV))) (t : TA) : TE := tCallA i (fun a => (tblF tbl a).map fun f => spD (fun ds r => f ds = some r) K) t
section
variable {t : TA} {ρ ρ1 : Rho} {As : List Arg} {ds : List D} {i : Nat} {a : Addr} {tbl : List (Addr × (List D → Option RetV))} {f : List D → Option RetV}
theorem ed_callF {d : D} (h0 : ρ[i]? = some (.dat (fnD a))) (hf : tblF tbl a = some f) (ha : EvA g t ρ As ρ1) (hR : f ds = some (.dat d)) (hd : datas As = some ds := by rfl) : EvD g (tCallF g.K i tbl t) ρ d ρ1 := fun c F H σ k s Q q => by
  obtain ⟨v, f1, f2⟩ := s.dat h0
  rw [dx_fn f2] at f1
  have e := ed_call (g := g) (R := fun ds r => f ds = some r) (E := E0) ha hR hd c F H σ k s Q q
  refine ⟨a, spD (fun ds r => f ds = some r) g.K, f1, by show (tblF tbl a).map _ = _; rw [hf]; rfl, ?_⟩
  have z : (fun (vs : List V) (H1 : Hp) => spD (fun ds r => f ds = some r) g.K (vs ++ []) H1 Q E0) = fun vs H1 => spD (fun ds r => f ds = some r) g.K vs H1 Q (fun _ _ _ => False) := by
    funext vs H1
    rw [List.append_nil]
  rw [← z]
  exact e
theorem ew_callF {w : Ow} (h0 : ρ[i]? = some (.dat (fnD a))) (hf : tblF tbl a = some f) (ha : EvA g t ρ As ρ1) (hR : f ds = some (.new w)) (hd : datas As = some ds := by rfl) : EvW g (tCallF g.K i tbl t) ρ w ρ1 := fun c F H σ k s Q q => by
  obtain ⟨v, f1, f2⟩ := s.dat h0
  rw [dx_fn f2] at f1
  have e := ew_call (g := g) (R := fun ds r => f ds = some r) (E := E0) ha hR hd c F H σ k s Q q
  refine ⟨a, spD (fun ds r => f ds = some r) g.K, f1, by show (tblF tbl a).map _ = _; rw [hf]; rfl, ?_⟩
  have z : (fun (vs : List V) (H1 : Hp) => spD (fun ds r => f ds = some r) g.K (vs ++ []) H1 Q E0) = fun vs H1 => spD (fun ds r => f ds = some r) g.K vs H1 Q (fun _ _ _ => False) := by
    funext vs H1
    rw [List.append_nil]
  rw [← z]
  exact e
end
end DL
namespace DL
open PySem PySem.Spec PyProof.Rows L2
variable [TabC]
variable {K : PySem.W.Frag} {g : Gm} {X : Cx}
def kitL (a : String) : List String → Option Bool
  | [] => some false
  | T :: r => match kitB a T with
    | some true => some true
    | some false => kitL a r
    | none => none
def kitM (d : D) (Ts : List String) : Option Bool := if notDct d = true then kitL (tyN d) Ts else none
theorem kitL_ok {a : String} : ∀ {Ts : List String} {b : Bool}, kitL a Ts = some b → PySem.W.kitAny K (.type a) (Ts.map Value.type) = some b
  | [], b, h => by cases h; rfl
  | T :: r, b, h => by
    unfold kitL at h
    rw [List.map_cons, PySem.W.kitAny.eq_def]
    cases e : kitB a T with
    | none => rw [e] at h; cases h
    | some x =>
      rw [e] at h
      simp only [kit_ty (K := K) e]
      cases x with
      | true => exact h
      | false => exact kitL_ok h
def tysA : List String → TA
  | [] => tNil
  | T :: r => tCons (tC (.ty T)) (tysA r)
theorem tys_run (σ : L2.St) (H : Hp) : ∀ (Ts : List String) (Q : List V → Hp → Prop), Q (Ts.map V.ty) H → tysA Ts σ H Q
  | [], Q, q => q
  | T :: r, Q, q => by
    show tysA r σ H fun xs H1 => Q (.ty T :: xs) H1
    exact tys_run σ H r _ q
theorem tys_pair : ∀ Ts : List String, Paired ClsV (Ts.map V.ty) (Ts.map Value.type)
  | [] => .nil
  | T :: r => .cons (.ty T) (tys_pair r)
theorem ed_isaT {te : TE} {ρ ρ1 : Rho} {A : Arg} {d : D} {Ts : List String} {b : Bool} (ha : EvO g te ρ A ρ1) (dA : A.den ρ1 = some d) (hk0 : kitM d Ts = some b) (hl : Ts.length ≤ 10) : EvD g (tCB (rIsiT g.K) (tCons te (tCons (tTup (tysA Ts)) tNil))) ρ (.bool b) ρ1 := fun c F H σ k s Q q =>
  ha c F H σ k s _ fun v F1 H1 s1 e1 h1 => by
    have kk : c.K = g.K := k.1
    unfold kitM at hk0
    split at hk0
    case isFalse => cases hk0
    rename_i hn
    refine tys_run σ H1 Ts _ ⟨by rw [List.length_map, sizeLine_eq]; omega, fun p np => ?_⟩
    have s2 := s1.heap (o := .tup (Ts.map V.ty)) np
    have o1 := Arg.opd s2 h1 dA
    rw [kk] at o1
    exact ⟨v, p, _, _, _, b, rfl, upd_same, tys_pair Ts, tyx_of s2.fh o1 hn, kitL_ok hk0, q _ F1 _ s2 e1 (.bl b)⟩
theorem rc_lenK {d : D} {kvs : List (Key × D)} (e : dictOf d = some kvs) : RCD K (fun xs H Q => ∃ a kvs, xs = [V.ref a] ∧ H a = some (.dK kvs) ∧ Q (.int kvs.length) H) [d] (.int kvs.length) := fun F H xs Q f a q => by
  obtain ⟨v, rfl, a1⟩ := a.one
  have x : Dx K F v d := by
    rcases a1 with x | ⟨_, _, _, _, rfl, _, _⟩
    · exact x
    · cases e
  obtain ⟨p, ys, rfl, h1, h2⟩ := dx_dict x e
  refine ⟨p, ys, rfl, f _ _ h1, ?_⟩
  rw [Paired.length h2]
  exact q _ F H (.at (.int _))
section
variable {ρ : Rho} {i : Nat} {kvs : List (Key × D)} {P : Out → Prop}
theorem Sim.frzD {c : Cc} {F H : Hp} {σ : L2.St} (s : Sim c F H σ ρ) (h0 : ρ[i]? = some (.own (.dK kvs))) (hP : ∀ (a : Addr), (i, a) ∉ c.P) (hW : ∀ a, c.W a → ∃ j, (j, a) ∈ c.P) : ∃ F', Same F F' ∧ Sim c F' H σ (ρ.set i (.dat (.dict (kvE kvs)))) := by
  obtain ⟨fp, sf⟩ := id s
  obtain ⟨a, e1, e2', xs, e2, e4⟩ := sf.own i _ h0
  have m : a ∈ fp i := by rw [e2']; simp
  have e3 : F a = none := (sf.ownF i _ a h0 m).1
  have hi : i < ρ.length := (List.getElem?_eq_some_iff.mp h0).1
  have hB : c.B a = none := by
    rcases (sf.ownF i _ a h0 m).2.2 with q | q
    · exact q
    · obtain ⟨j, hj⟩ := hW a q
      have := sf.wp i _ a h0 m j hj
      subst this
      exact absurd hj (hP a)
  have s2 := (sf.hide i).freeze e2 hB (fun j w q m' => by
    by_cases z : j = i
    · subst z; rw [List.getElem?_set_self hi] at q; cases q
    · rw [List.getElem?_set_ne (Ne.symm z)] at q
      exact z (sf.sep j i w _ a q h0 m' m)) e3
  have e5 : Same F (upd F a (.dK xs)) := sameNew e3
  refine ⟨_, e5, ?_⟩
  have s3 : Sim c (upd F a (.dK xs)) H σ (ρ.set i .no) := ⟨fp, s2⟩
  have s4 := s3.setDat (i := i) (v := .ref a) (d := .dict (kvE kvs)) (.dct upd_same (dpKvUp e5 (kv_of e4))) (by simpa using hi) hP
  have e6 : σ.set i (some (.ref a)) = σ := by
    apply List.ext_getElem?
    intro n
    by_cases z : n = i
    · subst z
      rw [List.getElem?_set_self (by rw [sf.len]; exact hi), e1]
    · rw [List.getElem?_set_ne (Ne.symm z)]
  rw [e6, List.set_set] at s4
  exact s4
theorem sv_frzD {ts : TS} (h0 : ρ[i]? = some (.own (.dK kvs))) (h : Sv g ts (ρ.set i (.dat (.dict (kvE kvs)))) P) (hp : i ∉ g.ps := by simp) : Sv g ts ρ P := fun c F H σ E k s p => by
  obtain ⟨F', e, s'⟩ := s.frzD h0 (notP k hp) k.wp
  exact h c F' H σ E k s' (p.up e)
end
end DL
namespace DL
open PySem PySem.Spec PyProof.Rows L2
variable [TabC]
variable {K : PySem.W.Frag} {g : Gm} {X : Cx}
theorem ew_dispb {tk : TE} {ρ : Rho} {k : Key} {n : Bool} (hk : PureE g tk ρ (keyOf k)) : EvW g (tDisp [(tk, tC (.bl n))]) ρ (.dK [(k, .bool n)]) ρ := fun c F H σ kk s Q q p hp => by
  obtain ⟨fp, sf⟩ := id s
  refine hk c F H σ kk.1 s (upd H p (.dK [])) _ fun v x => ?_
  show upd H p (.dK []) p = some (.dK []) ∧ _
  refine ⟨upd_same, [(k, .bl n)], by rw [kd_key x]; rfl, by simp, ?_⟩
  have hB : c.B p = none := by
    cases z : c.B p with
    | none => rfl
    | some u => exact absurd hp (sf.dom p (by simp [z]))
  have no : ∀ (j : Nat) (w : Ow), ρ[j]? = some (.own w) → p ∉ fp j := fun j w z m => (sf.ownF j w p z m).2.1 hp
  have eu : upd (upd H p (.dK [])) p (.dK (mergeK [] [(k, V.bl n)])) = upd H p (.dK (mergeK [] [(k, V.bl n)])) := by
    funext b
    unfold upd
    split <;> rfl
  rw [eu]
  refine q p F _ ⟨[p], fp, sf.other (freeF sf.fh hp) hB no, ⟨rfl, _, upd_same, .cons ⟨rfl, .bl n⟩ .nil⟩, fun b m => ?_, fun j w' b z m => ?_⟩ (Same.refl _)
  · have z : b = p := by simpa using m
    subst z
    exact ⟨freeF sf.fh hp, by rw [upd_same]; simp, hB⟩
  · have y : b = p := by simpa using m
    subst y
    exact no j w' z
def tNewL (te : TE) : TE := fun σ H Q => te σ H fun v H1 => ∃ a xs, v = .ref a ∧ H1 a = some (.dK xs) ∧ ∀ od, Q v (upd H1 a (.frz od (.dK xs)))
theorem ei_newK {te : TE} {ρ ρ1 : Rho} {kvs : List (Key × D)} (h : EvW g te ρ (.dK kvs) ρ1) : EvI g (iKeys (tNewL te)) ρ (kvs.map fun p => keyOf p.1).length (nthD (kvs.map fun p => keyOf p.1)) ρ1 := fun c F H σ kk s R q => h c F H σ kk s _ fun a F1 H1 ⟨f, fp, sf, hr, hf, no⟩ e0 => by
  obtain ⟨rfl, xs, h1, f3⟩ := hr
  obtain ⟨k1, k2, k3⟩ := hf a (by simp)
  refine ⟨a, xs, rfl, h1, fun od => ⟨a, od, rfl, .inl ⟨xs, upd_same, ?_⟩⟩⟩
  have hl := kd_len f3
  have s1 : SimF c F1 (upd H1 a (.frz od (.dK xs))) σ ρ1 fp := sf.other k1 k3 fun i w z m => no i w a z (by simp) m
  have s2 := s1.freeze (o := .frz od (.dK xs)) upd_same k3 (fun i w z m => no i w a z (by simp) m) k1
  have e1 : Same F1 (upd F1 a (.frz od (.dK xs))) := sameNew k1
  refine q _ _ _ ⟨fp, s2⟩ (e0.trans e1) fun F2 H2 e2 e3 => ?_
  have k2 : H2 a = some (.frz od (.dK xs)) := e3 _ _ (e2 _ _ upd_same)
  rw [List.length_map]
  refine ⟨fun n hn => ⟨k2, by omega⟩, ⟨k2, by omega⟩, fun n x H' hn y => ?_⟩
  obtain ⟨rfl, k, v, hk, rfl⟩ := y
  obtain ⟨d, hd, _⟩ := kd_get f3 hk
  have e : nthD (kvs.map fun p => keyOf p.1) n = keyOf k := by
    unfold nthD
    rw [List.getD_eq_getElem?_getD, List.getElem?_map, hd]
    rfl
  rw [e]
  cases k with
  | inl i => exact ⟨F2, .at (.int i)⟩
  | inr z => exact ⟨F2, .at (.str z)⟩
end DL
namespace EV
open PySem PySem.Spec PyProof.Rows L2 DL
variable [DL.TabC]
variable {K : PySem.W.Frag} {g : Gm}
inductive Op where
  | add | sub | mul | fdiv | mod | pow | eq | ne | lt | le | gt | ge | isIn | notIn | ix
/-- data, or a new list -/
inductive Rz where
  | d (z : D)
  | n (zs : List D)
def flatD : D → Bool
  | .none => true
  | .bool _ => true
  | .int _ => true
  | .str _ => true
  | _ => false
def inD (d : D) (ds : List D) : Bool := ds.any fun z => PyData.eqv z d
def op2 : Op → D → D → Option Rz
  | .add, .int i, .int j => some (.d (.int (i + j)))
  | .add, .str i, .str j => if i.length + j.length ≤ sizeLine then some (.d (.str (i ++ j))) else none
  | .add, .tuple xs, .tuple ys => if xs.length + ys.length ≤ sizeLine then some (.d (.tuple (xs ++ ys))) else none
  | .add, .list xs, .list ys => if xs.length + ys.length ≤ sizeLine then some (.n (xs ++ ys)) else none
  | .sub, .int i, .int j => some (.d (.int (i - j)))
  | .mul, .int i, .int j => if (-(2 ^ 64) < i ∧ i < 2 ^ 64) ∨ (-(2 ^ 64) < j ∧ j < 2 ^ 64) then some (.d (.int (i * j))) else none
  | .mul, .tuple xs, .int k => if -(2 ^ 63) ≤ k ∧ k ≤ 1000 ∧ xs.length ≤ 1000 then some (.d (.tuple (List.replicate k.toNat xs).flatten)) else none
  | .mul, .list xs, .int k => if -(2 ^ 63) ≤ k ∧ k ≤ 1000 ∧ xs.length ≤ 1000 then some (.n (List.replicate k.toNat xs).flatten) else none
  | .fdiv, .int i, .int j => if 0 < j ∧ j < 1073741824 then some (.d (.int (i / j))) else none
  | .mod, .int i, .int j => if 0 < j then some (.d (.int (i % j))) else none
  | .pow, .int i, .int j => if 0 ≤ j ∧ j ≤ 1000000 ∧ i.natAbs < 2 ^ 64 then some (.d (.int (i ^ j.toNat))) else none
  | .eq, .str i, .str j => some (.d (.bool (i == j)))
  | .eq, d, e => if SeqAt.shaped d = true ∧ SeqAt.shaped e = true then some (.d (.bool (PyData.eqv d e))) else none
  | .ne, .str i, .str j => some (.d (.bool (!(i == j))))
  | .ne, d, e => if SeqAt.shaped d = true ∧ SeqAt.shaped e = true then some (.d (.bool (!PyData.eqv d e))) else none
  | .lt, .int i, .int j => some (.d (.bool (decide (i < j))))
  | .lt, .tuple xs, .tuple ys => if PySem.W.alike (.tuple xs) (.tuple ys) = true ∧ min (PyData.tuple xs).depth (PyData.tuple ys).depth ≤ 64 ∧ (PyData.tuple xs).hasDict = false ∧ (PyData.tuple ys).hasDict = false then some (.d (.bool (PySem.W.dataLt (.tuple xs) (.tuple ys)))) else none
  | .le, .int i, .int j => some (.d (.bool (decide (i ≤ j))))
  | .gt, .int i, .int j => some (.d (.bool (decide (j < i))))
  | .ge, .int i, .int j => some (.d (.bool (decide (j ≤ i))))
  | .isIn, d, .list ds => if SeqAt.shaped d = true ∧ SeqAt.shaped (.list ds) = true then some (.d (.bool (inD d ds))) else none
  | .isIn, d, .tuple ds => if flatD d = true ∧ ds.all flatD = true then some (.d (.bool (inD d ds))) else none
  | .notIn, d, .list ds => if SeqAt.shaped d = true ∧ SeqAt.shaped (.list ds) = true then some (.d (.bool (!inD d ds))) else none
  | .notIn, d, .tuple ds => if flatD d = true ∧ ds.all flatD = true then some (.d (.bool (!inD d ds))) else none
  | .ix, .list ds, .int i => (atI ds i).map .d
  | .ix, .tuple ds, .int i => (atI ds i).map .d
  | .ix, .str z, .int i => if z.length ≤ sizeLine then (atI z.cps.toList i).map fun cp => .d (.str ⟨#[cp]⟩) else none
  | _, _, _ => none
/-- list + list, of any lists -/
def rCatL (K : PySem.W.Frag) : R2 := fun x y H Q => ∃ a b xs ys, x = .ref a ∧ y = .ref b ∧ SqL K H a xs ∧ SqL K H b ys ∧ xs.length + ys.length ≤ sizeLine ∧ ∀ p, H p = none → Q (.ref p) (upd H p (.lst (xs ++ ys)))
theorem op_catL {X : Cx} : OpR X (binaryOp .Add) (rCatL X.K) := by
  rintro pins s σ H x y v u Q I rx ry ⟨a, b, xs, ys, rfl, rfl, ha, hb, hz, q⟩
  cases rx
  cases ry
  obtain ⟨its, r, ⟨⟨cls, dd, data, sl⟩, n, e, hc, hd, hl⟩, _⟩ := I.list ha
  obtain ⟨its2, r2, ⟨⟨cls2, dd2, data2, sl2⟩, n2, e2, hc2, hd2, hl2⟩, _⟩ := I.list hb
  simp only at hc hd hl hc2 hd2 hl2
  subst hc hd hl hc2 hd2 hl2
  have ee : its.toArray ++ its2.toArray = (its ++ its2).toArray := by simp
  refine concat_meets ⟨_, e, rfl⟩ ⟨_, e2, rfl⟩ noFill_list_add seq_list_add PySem.F.slot_list_add PySem.F.entry_list_add (PySem.F.args_list_add_2 _ _) (list_addW a b its.toArray its2.toArray n n2 none none sl sl2 (by simp; rw [← r.length, ← r2.length]; exact hz)) ⟨e, e2, ?_⟩
  rw [ee]
  exact ⟨.ref _, _, I.lnew (t' := s.toks) (r.append r2) (by rw [List.length_append]; omega), rfl, q _ I.fresh⟩
def opK (K : PySem.W.Frag) : Op → R2
  | .add => fun x y H Q => uAdd K x y H Q ∨ rCatL K x y H Q
  | .sub => rI0 fun i j => .int (i - j)
  | .mul => fun x y H Q => rI CMul (fun i j => .int (i * j)) x y H Q ∨ (rRepX K x y H Q ∨ (rRepS K x y H Q ∨ (rRep0 K x y H Q ∨ rRepL K x y H Q)))
  | .fdiv => rI CDiv fun i j => .int (i / j)
  | .mod => rI (fun _ j => 0 < j) fun i j => .int (i % j)
  | .pow => rI CPow fun i j => .int (i ^ j.toNat)
  | .eq => fun x y H Q => rEqD K x y H Q ∨ rEq x y H Q
  | .ne => fun x y H Q => rNeD K x y H Q ∨ rNe x y H Q
  | .lt => fun x y H Q => rI0 (fun i j => .bl (decide (i < j))) x y H Q ∨ rLtD K x y H Q
  | .le => rI0 fun i j => .bl (decide (i ≤ j))
  | .gt => rI0 fun i j => .bl (decide (j < i))
  | .ge => rI0 fun i j => .bl (decide (j ≤ i))
  | .isIn => uIn K
  | .notIn => uNotIn K
  | .ix => rIx K
theorem opr_add {X : Cx} : OpR X (binaryOp .Add) (opK X.K .add) := OpR.or op_uAdd op_catL
theorem opr_sub {X : Cx} : OpR X (binaryOp .Sub) (opK X.K .sub) := op_sub
theorem opr_mul {X : Cx} : OpR X (binaryOp .Mult) (opK X.K .mul) := OpR.or op_mul (OpR.or op_repX (OpR.or op_repS (OpR.or op_rep0 op_repL)))
theorem opr_fdiv {X : Cx} : OpR X (binaryOp .FloorDiv) (opK X.K .fdiv) := op_fdiv
theorem opr_mod {X : Cx} : OpR X (binaryOp .Mod) (opK X.K .mod) := op_mod
theorem opr_pow {X : Cx} : OpR X (binaryOp .Pow) (opK X.K .pow) := op_pow
theorem opr_eq {X : Cx} (hu : X.A.units + 64 < cLine) : OpR X (compareOp .Eq) (opK X.K .eq) := OpR.or (op_eqD hu) op_eq
theorem opr_ne {X : Cx} (hu : X.A.units + 64 < cLine) : OpR X (compareOp .NotEq) (opK X.K .ne) := OpR.or (op_neD hu) op_ne
theorem opr_lt {X : Cx} (hu : X.A.units + 64 < cLine) : OpR X (compareOp .Lt) (opK X.K .lt) := OpR.or op_lt (op_ltD hu)
theorem opr_le {X : Cx} : OpR X (compareOp .LtE) (opK X.K .le) := op_le
theorem opr_ge {X : Cx} : OpR X (compareOp .GtE) (opK X.K .ge) := op_ge
theorem opr_in {X : Cx} (hu : X.A.units + 65 < cLine) : OpR X (compareOp .In) (opK X.K .isIn) := op_uIn hu
theorem flat_v {F : Hp} {v : V} {d : D} (h : Dx K F v d) (hf : flatD d = true) : flatV v = true := by
  cases h <;> first | rfl | cases hf
theorem flats_v {F : Hp} : ∀ {vs : List V} {ds : List D}, DxAll K F vs ds → ds.all flatD = true → vs.all flatV = true
  | _, _, .nil, _ => rfl
  | _, _, .cons h t, hf => by
    rw [List.all_cons, Bool.and_eq_true] at hf ⊢
    exact ⟨flat_v h hf.1, flats_v t hf.2⟩
theorem eqV_D {F : Hp} {u v : V} {d e : D} (h : Dx K F u d) (h2 : Dx K F v e) (hd : flatD d = true) (he : flatD e = true) : eqV u v = PyData.eqv d e := by
  cases h <;> first | (cases h2 <;> first | rfl | cases he) | cases hd
theorem inV_D {F : Hp} {v : V} {d : D} (h : Dx K F v d) (hd : flatD d = true) : ∀ {vs : List V} {ds : List D}, DxAll K F vs ds → ds.all flatD = true → inV v vs = inD d ds
  | _, _, .nil, _ => rfl
  | _, _, .cons a t, hf => by
    rw [List.all_cons, Bool.and_eq_true] at hf
    have e := inV_D h hd t hf.2
    unfold inV inD at e ⊢
    rw [List.any_cons, List.any_cons, e, eqV_D a h hf.1 hd]
theorem Opd.flat {F H : Hp} {v : V} {d : D} (h : Opd K F H v d) (hd : flatD d = true) : Dx K F v d := by
  rcases h with h | ⟨a, vs, ds, rfl, rfl, _⟩
  · exact h
  · cases hd
theorem inT {d : D} {ds : List D} {neg : Bool} (h1 : flatD d = true) (h2 : ds.all flatD = true) : R2D K (rIn K neg) d (.tuple ds) (.bool (if neg then !inD d ds else inD d ds)) := fun F H x l Q f a b q => by
  obtain ⟨p, vs, rfl, k1, k2⟩ := b.tup f
  have a' := Opd.flat a h1
  refine ⟨p, vs, rfl, .inr k1, flat_v a' h1, flats_v k2 h2, ?_⟩
  rw [inV_D a' h1 k2 h2]
  exact q _ F H (.at (.bl _))
theorem catLN {xs ys : List D} (hz : xs.length + ys.length ≤ sizeLine) : R2N K (rCatL K) (.list xs) (.list ys) (xs ++ ys) := fun F H x y Q f a b q => by
  obtain ⟨p, vs, rfl, k1, k2⟩ := a.list f
  obtain ⟨r, ws, rfl, m1, m2⟩ := b.list f
  exact ⟨p, r, vs, ws, rfl, rfl, k1, m1, by rw [dpAllLen k2, dpAllLen m2]; exact hz, fun t ht => q t _ ht (dpAllApp k2 m2)⟩
theorem r2n_or2 {r r' : R2} {d e : D} {zs : List D} (h : R2N K r' d e zs) : R2N K (fun x y H Q => r x y H Q ∨ r' x y H Q) d e zs := fun F H x y Q f a b q => .inr (h F H x y Q f a b q)
def RzOk (K : PySem.W.Frag) (r : R2) (d e : D) : Rz → Prop
  | .d z => R2D K r d e z
  | .n zs => R2N K r d e zs
theorem mulT {ds : List D} {n : Int} (h0 : -(2 ^ 63) ≤ n) (h1 : n ≤ 1000) (h2 : ds.length ≤ 1000) : R2D K (fun x y H Q => rRepX K x y H Q ∨ (rRepS K x y H Q ∨ (rRep0 K x y H Q ∨ rRepL K x y H Q))) (.tuple ds) (.int n) (.tuple (List.replicate n.toNat ds).flatten) := by
  by_cases e : ds = []
  · subst e
    have : (List.replicate n.toNat ([] : List D)).flatten = [] := by simp
    rw [this]
    exact r2_or2 (r2_or1 (r2_repS h0 (by omega) (.inl rfl)))
  · by_cases e1 : n = 1
    · subst e1
      have : (List.replicate (1 : Int).toNat ds).flatten = ds := by simp
      rw [this]
      exact r2_or2 (r2_or1 (r2_repS h0 (by omega) (.inr rfl)))
    · by_cases e0 : n ≤ 0
      · have : (List.replicate n.toNat ds).flatten = [] := by rw [show n.toNat = 0 by omega]; rfl
        rw [this]
        exact r2_or2 (r2_or2 (r2_or1 (r2_rep0 h0 e0 e)))
      · exact r2_or1 (r2_rep e (by omega) h1 h2)
theorem repLN {xs : List D} {n : Int} (h0 : -(2 ^ 63) ≤ n) (h1 : n ≤ 1000) (h2 : xs.length ≤ 1000) : R2N K (rRepL K) (.list xs) (.int n) (List.replicate n.toNat xs).flatten := fun F H x y Q f a b q => by
  obtain ⟨p, vs, rfl, k1, k2⟩ := a.list f
  have hl := dpAllLen k2
  refine ⟨p, n, vs, rfl, b.int, k1, h0, by omega, ?_, fun t ht => q t _ ht (r2_rep.rep n.toNat k2)⟩
  rw [hl, sizeLine_eq]
  have : xs.length * n.toNat ≤ 1000 * 1000 := Nat.mul_le_mul h2 (by omega)
  omega
theorem op2_ok (o : Op) (d e : D) (z : Rz) (h : op2 o d e = some z) : RzOk K (opK K o) d e z := by
  revert h
  unfold op2
  split <;> intro h
  case h_1 => cases h; exact r2_or1 ra_int
  case h_2 =>
    split at h
    · cases h; exact r2_or1 (ra_str ‹_›)
    · cases h
  case h_3 =>
    split at h
    · cases h; exact r2_or1 (ra_tup ‹_›)
    · cases h
  case h_4 =>
    split at h
    · cases h; exact r2n_or2 (catLN ‹_›)
    · cases h
  case h_5 => cases h; exact r2_int
  case h_6 =>
    split at h
    · cases h; exact r2_or1 (r2_intC ‹_›)
    · cases h
  case h_7 =>
    split at h
    · rename_i hh
      cases h
      exact r2_or2 (mulT hh.1 hh.2.1 hh.2.2)
    · cases h
  case h_8 =>
    split at h
    · rename_i hh
      cases h
      exact r2n_or2 (r2n_or2 (r2n_or2 (r2n_or2 (repLN hh.1 hh.2.1 hh.2.2))))
    · cases h
  case h_9 =>
    split at h
    · cases h; exact r2_intC ‹_›
    · cases h
  case h_10 =>
    split at h
    · cases h; exact r2_intC ‹_›
    · cases h
  case h_11 =>
    split at h
    · rename_i hh
      cases h; exact r2_intC (C := CPow) (f := fun i j => i ^ j.toNat) hh
    · cases h
  case h_12 => cases h; exact r2_or2 fun F H x y Q f a b q => ⟨by rw [a.str, b.str]; rfl, by rw [a.str, b.str, dec_str]; exact q _ F H (.at (.bl _))⟩
  case h_14 => cases h; exact r2_or2 fun F H x y Q f a b q => ⟨by rw [a.str, b.str]; rfl, by rw [a.str, b.str, dec_str]; exact q _ F H (.at (.bl _))⟩
  case h_13 =>
    split at h
    · rename_i hh
      cases h; exact r2_or1 (r2_eqD hh.1 hh.2)
    · cases h
  case h_15 =>
    split at h
    · rename_i hh
      cases h; exact r2_or1 (r2_neD hh.1 hh.2)
    · cases h
  case h_16 => cases h; exact r2_or1 (r2_bl (f := fun i j => decide (i < j)))
  case h_17 =>
    split at h
    · rename_i hh
      cases h; exact r2_or2 (r2_ltD hh.1 (fun z => nomatch z) hh.2.1 hh.2.2.1 hh.2.2.2)
    · cases h
  case h_18 => cases h; exact r2_bl (f := fun i j => decide (i ≤ j))
  case h_19 => cases h; exact r2_bl (f := fun i j => decide (j < i))
  case h_20 => cases h; exact r2_bl (f := fun i j => decide (j ≤ i))
  case h_21 =>
    split at h
    · rename_i hh
      cases h; exact ri_dat hh.1 hh.2
    · cases h
  case h_22 =>
    split at h
    · rename_i hh
      cases h; exact fun F H x l Q f a b q => .inl (inT (neg := false) hh.1 hh.2 F H x l Q f a b q)
    · cases h
  case h_23 =>
    split at h
    · rename_i hh
      cases h; exact rn_dat hh.1 hh.2
    · cases h
  case h_24 =>
    split at h
    · rename_i hh
      cases h; exact fun F H x l Q f a b q => .inl (inT (neg := true) hh.1 hh.2 F H x l Q f a b q)
    · cases h
  case h_25 =>
    obtain ⟨a, h1, rfl⟩ := Option.map_eq_some_iff.mp h
    exact rx_L h1
  case h_26 =>
    obtain ⟨a, h1, rfl⟩ := Option.map_eq_some_iff.mp h
    exact rx_T h1
  case h_27 =>
    split at h
    · rename_i hh
      obtain ⟨a, h1, rfl⟩ := Option.map_eq_some_iff.mp h
      exact rx_S hh h1
    · cases h
  case h_28 => cases h
end EV
namespace DL
open PySem PySem.Spec PyProof.Rows L2
def tCallE (te : TE) (S : Addr → Option Sp) (t : TA) : TE := fun σ H Q => te σ H fun v H1 => ∃ f sp, v = .ref f ∧ S f = some sp ∧ t σ H1 fun vs H2 => sp vs H2 Q (fun _ _ _ => False)
variable [TabC]
def tCallEF (K : PySem.W.Frag) (te : TE) (tbl : List (Addr × (List D → Option RetV))) (t : TA) : TE := tCallE te (fun a => (tblF tbl a).map fun f => spD (fun ds r => f ds = some r) K) t
section
variable {K : PySem.W.Frag} {g : Gm} {te : TE} {t : TA} {ρ ρ1 ρ2 : Rho} {As : List Arg} {ds : List D} {a : Addr} {tbl : List (Addr × (List D → Option RetV))} {f : List D → Option RetV}
theorem ed_callE {d : D} (h0 : EvD g te ρ (fnD a) ρ1) (hf : tblF tbl a = some f) (ha : EvA g t ρ1 As ρ2) (hR : f ds = some (.dat d)) (hd : datas As = some ds := by rfl) : EvD g (tCallEF g.K te tbl t) ρ d ρ2 := fun c F H σ k s Q q => h0 c F H σ k s _ fun v F1 H1 s1 e1 x => by
  have e := ed_call (g := g) (R := fun ds r => f ds = some r) (E := E0) ha hR hd c F1 H1 σ k s1 Q fun v F' H' s' e' x' => q v F' H' s' (e1.trans e') x'
  refine ⟨a, spD (fun ds r => f ds = some r) g.K, dx_fn x, by show (tblF tbl a).map _ = _; rw [hf]; rfl, ?_⟩
  have z : (fun (vs : List V) (H1 : Hp) => spD (fun ds r => f ds = some r) g.K (vs ++ []) H1 Q E0) = fun vs H1 => spD (fun ds r => f ds = some r) g.K vs H1 Q (fun _ _ _ => False) := by
    funext vs H1
    rw [List.append_nil]
  rw [← z]
  exact e
theorem ew_callE {w : Ow} (h0 : EvD g te ρ (fnD a) ρ1) (hf : tblF tbl a = some f) (ha : EvA g t ρ1 As ρ2) (hR : f ds = some (.new w)) (hd : datas As = some ds := by rfl) : EvW g (tCallEF g.K te tbl t) ρ w ρ2 := fun c F H σ k s Q q => h0 c F H σ k s _ fun v F1 H1 s1 e1 x => by
  have e := ew_call (g := g) (R := fun ds r => f ds = some r) (E := E0) ha hR hd c F1 H1 σ k s1 Q fun p F' H' b e' => q p F' H' b (e1.trans e')
  refine ⟨a, spD (fun ds r => f ds = some r) g.K, dx_fn x, by show (tblF tbl a).map _ = _; rw [hf]; rfl, ?_⟩
  have z : (fun (vs : List V) (H1 : Hp) => spD (fun ds r => f ds = some r) g.K (vs ++ []) H1 Q E0) = fun vs H1 => spD (fun ds r => f ds = some r) g.K vs H1 Q (fun _ _ _ => False) := by
    funext vs H1
    rw [List.append_nil]
  rw [← z]
  exact e
end
end DL
namespace DL
open PySem PySem.Spec PyProof.Rows L2
variable [TabC]
def IteL (K : PySem.W.Frag) (a : Addr) : It :=
  ⟨fun i H => ∃ (xs : List V) (x : V), SqL K H a xs ∧ xs[i]? = some x,
    fun i H v H' => ∃ T x o, v = .ref T ∧ H T = none ∧ o.dict = none ∧ H' = upd H T (.frz o (.tup [.int (i : Nat), x])) ∧ ∀ xs, SqL K H a xs → xs[i]? = some x,
    fun i H => ∃ xs : List V, SqL K H a xs ∧ xs.length = i⟩
def iEnL (K : PySem.W.Frag) (ta : TA) : TI := fun σ H R => ta σ H fun vs H1 => ∃ a xs, vs = [.ref a] ∧ SqL K H1 a xs ∧ R (IteL K a) H1
section
variable {g : Gm} {te : TE} {ρ ρ1 : Rho} {ds : List D} {K : PySem.W.Frag}
theorem walk_enLD {F : Hp} {a : Addr} {vs : List V} (h : SqL K F a vs) (k : DxAll K F vs ds) : WalkD K F (IteL K a) ds.length (pairD ds) := fun F2 H2 e1 e2 => by
  have q : SqL K H2 a vs := slUp e2 (slUp e1 h)
  have hl := dpAllLen k
  refine ⟨fun i hi => ⟨vs, vs[i]'(by omega), q, by simp [show i < vs.length by omega]⟩, ⟨vs, q, hl⟩, fun i x H' hi y => ?_⟩
  obtain ⟨T, v, o, rfl, hT, ho, rfl, y⟩ := y
  obtain ⟨v', h1, h2⟩ := dpAllGet k (nthD_at hi)
  have := y vs q
  rw [h1] at this
  cases this
  exact ⟨_, .new hT ho (.cons (.int _) (.cons (dpUp e1 h2) .nil))⟩
theorem ei_enL (h : EvD g te ρ (.list ds) ρ1) : EvI g (iEnL g.K (tCons te tNil)) ρ ds.length (pairD ds) ρ1 := fun c F H σ k s R q => h c F H σ k s _ fun v F1 H1 s1 e1 x => by
  have kk : c.K = g.K := k.1
  cases x with
  | lst hs ha =>
    rw [kk] at hs ha
    exact ⟨_, _, rfl, slUp s1.fh hs, q _ F1 H1 s1 e1 (by rw [kk]; exact walk_enLD hs ha)⟩
end
end DL
namespace DL
open PySem PySem.Spec PyProof.Rows L2
/-- place by place -/
inductive AllP (Pt : Addr → Int × Int → Prop) : List V → List (Int × Int) → Prop
  | nil : AllP Pt [] []
  | cons {t : Addr} {p : Int × Int} {xs : List V} {ps : List (Int × Int)} : Pt t p → AllP Pt xs ps → AllP Pt (.ref t :: xs) (p :: ps)
def rSrtP (K : PySem.W.Frag) : List V → Hp → VK → Prop := fun vs H Q => ∃ (a : Addr) (xs : List V) (ps : List (Int × Int)) (Pt : Addr → Int × Int → Prop), vs = [V.ref a] ∧ SqL K H a xs ∧ (∀ t p, Pt t p → SqT K H t [.int p.1, .int p.2]) ∧ AllP Pt xs ps ∧
  ∀ ys zs d, zs.Perm ps → zs.Pairwise (fun x y => SrtO.lexB y x = false) → AllP Pt ys zs → H d = none → Q (.ref d) (upd H d (.lst ys))
def insP (x : Int × Int) : List (Int × Int) → List (Int × Int)
  | [] => [x]
  | y :: l => if SrtO.lexB y x = true then y :: insP x l else x :: y :: l
def sortP : List (Int × Int) → List (Int × Int)
  | [] => []
  | x :: l => insP x (sortP l)
abbrev pairI (p : Int × Int) : D := .tuple [.int p.1, .int p.2]
abbrev leP (x y : Int × Int) : Prop := SrtO.lexB y x = false
theorem leP_iff {x y : Int × Int} : leP x y ↔ x.1 < y.1 ∨ (x.1 = y.1 ∧ x.2 ≤ y.2) := by
  unfold leP
  rw [SrtO.lexB_no]
  omega
theorem insP_perm (x : Int × Int) : ∀ l, (insP x l).Perm (x :: l)
  | [] => .refl _
  | y :: l => by
    unfold insP
    split
    · exact ((insP_perm x l).cons y).trans (.swap x y l)
    · exact .refl _
theorem sortP_perm : ∀ l, (sortP l).Perm l
  | [] => .refl _
  | x :: l => (insP_perm x _).trans ((sortP_perm l).cons x)
theorem insP_sorted (x : Int × Int) : ∀ l, l.Pairwise leP → (insP x l).Pairwise leP
  | [], _ => by simp [insP]
  | y :: l, h => by
    unfold insP
    obtain ⟨h1, h2⟩ := List.pairwise_cons.mp h
    split
    · rename_i hx
      refine List.pairwise_cons.mpr ⟨fun z m => ?_, insP_sorted x l h2⟩
      rcases List.mem_cons.mp ((insP_perm x l).mem_iff.mp m) with m | m
      · rw [m]
        have := SrtO.lexB_iff.mp hx
        exact leP_iff.mpr (by omega)
      · exact h1 z m
    · rename_i hx
      have hx : leP x y := by
        cases q : SrtO.lexB y x with
        | true => exact absurd q hx
        | false => exact q
      refine List.pairwise_cons.mpr ⟨fun z m => ?_, h⟩
      rcases List.mem_cons.mp m with m | m
      · rw [m]; exact hx
      · have a := leP_iff.mp hx
        have b := leP_iff.mp (h1 z m)
        exact leP_iff.mpr (by omega)
theorem sortP_sorted : ∀ l, (sortP l).Pairwise leP
  | [] => .nil
  | x :: l => insP_sorted x _ (sortP_sorted l)
theorem sortP_one {a b : List (Int × Int)} (p : a.Perm b) (ha : a.Pairwise leP) : a = sortP b :=
  (p.trans (sortP_perm b).symm).eq_of_pairwise (fun x y _ _ h1 h2 => by
    have a := leP_iff.mp h1
    have b := leP_iff.mp h2
    exact Prod.ext (by omega) (by omega)) ha (sortP_sorted b)
variable [TabC]
theorem rc_srtP {K : PySem.W.Frag} {ps : List (Int × Int)} : RCN K (rSrtP K) [.list (ps.map pairI)] ((sortP ps).map pairI) := fun F H xs Q f a q => by
  obtain ⟨v, rfl, a1⟩ := a.one
  obtain ⟨p, vs, rfl, k1, k2⟩ := a1.list f
  have ap : ∀ {vs : List V} {ps : List (Int × Int)}, DxAll K F vs (ps.map pairI) → AllP (fun t p => TupX K F t [.int p.1, .int p.2]) vs ps := fun {vs ps} => by
    induction ps generalizing vs with
    | nil => intro h; cases h; exact .nil
    | cons p ps ih =>
      intro h
      cases h with
      | cons h1 h2 =>
        cases h1 with
        | tup hs ha =>
          have := dp_ints (ns := [p.1, p.2]) ha
          subst this
          exact .cons hs (ih h2)
  have pa : ∀ {vs : List V} {ps : List (Int × Int)}, AllP (fun t p => TupX K F t [.int p.1, .int p.2]) vs ps → DxAll K F vs (ps.map pairI) := fun {vs ps} h => by
    induction h with
    | nil => exact .nil
    | cons h1 _ ih => exact .cons (.tup h1 (.cons (.int _) (.cons (.int _) .nil))) ih
  refine ⟨p, vs, ps, _, rfl, k1, fun t p h => stUp f h.old, ap k2, fun ys zs d z1 z2 z3 z4 => ?_⟩
  exact q d ys z4 (by rw [← sortP_one z1 z2]; exact pa z3)
end DL
namespace EV
open PySem PySem.Spec PyProof.Rows L2 DL
variable [DL.TabC]
variable {K : PySem.W.Frag} {g : Gm}
inductive Bf where
  | len | abs | int | tuple | list | all | any | max | min | sum | sorted | repr | str
def intsOf : List D → Option (List Int)
  | [] => some []
  | .int i :: ds => (intsOf ds).map (i :: ·)
  | _ => none
def boolsOf : List D → Option (List Bool)
  | [] => some []
  | .bool i :: ds => (boolsOf ds).map (i :: ·)
  | _ => none
def strsOf : List D → Option (List Str)
  | [] => some []
  | .str i :: ds => (strsOf ds).map (i :: ·)
  | _ => none
theorem intsOf_eq : ∀ {ds : List D} {ns : List Int}, intsOf ds = some ns → ds = ns.map .int
  | [], ns, h => by cases h; rfl
  | .int i :: ds, ns, h => by
    obtain ⟨ms, h1, rfl⟩ := Option.map_eq_some_iff.mp (show (intsOf ds).map (i :: ·) = some ns from h)
    rw [intsOf_eq h1]; rfl
  | .none :: _, _, h | .bool _ :: _, _, h | .str _ :: _, _, h | .list _ :: _, _, h | .tuple _ :: _, _, h | .dict _ :: _, _, h => by cases h
theorem boolsOf_eq : ∀ {ds : List D} {ns : List Bool}, boolsOf ds = some ns → ds = ns.map .bool
  | [], ns, h => by cases h; rfl
  | .bool i :: ds, ns, h => by
    obtain ⟨ms, h1, rfl⟩ := Option.map_eq_some_iff.mp (show (boolsOf ds).map (i :: ·) = some ns from h)
    rw [boolsOf_eq h1]; rfl
  | .none :: _, _, h | .int _ :: _, _, h | .str _ :: _, _, h | .list _ :: _, _, h | .tuple _ :: _, _, h | .dict _ :: _, _, h => by cases h
theorem strsOf_eq : ∀ {ds : List D} {ns : List Str}, strsOf ds = some ns → ds = ns.map .str
  | [], ns, h => by cases h; rfl
  | .str i :: ds, ns, h => by
    obtain ⟨ms, h1, rfl⟩ := Option.map_eq_some_iff.mp (show (strsOf ds).map (i :: ·) = some ns from h)
    rw [strsOf_eq h1]; rfl
  | .none :: _, _, h | .int _ :: _, _, h | .bool _ :: _, _, h | .list _ :: _, _, h | .tuple _ :: _, _, h | .dict _ :: _, _, h => by cases h
@[simp] theorem intsOf_map : ∀ ns : List Int, intsOf (ns.map .int) = some ns
  | [] => rfl
  | n :: ns => by simp [intsOf, intsOf_map ns]
@[simp] theorem boolsOf_map : ∀ ns : List Bool, boolsOf (ns.map .bool) = some ns
  | [] => rfl
  | n :: ns => by simp [boolsOf, boolsOf_map ns]
@[simp] theorem strsOf_map : ∀ ns : List Str, strsOf (ns.map .str) = some ns
  | [] => rfl
  | n :: ns => by simp [strsOf, strsOf_map ns]
def insI (x : Int) : List Int → List Int
  | [] => [x]
  | y :: l => if x ≤ y then x :: y :: l else y :: insI x l
def sortI : List Int → List Int
  | [] => []
  | x :: l => insI x (sortI l)
theorem insI_perm (x : Int) : ∀ l : List Int, (insI x l).Perm (x :: l)
  | [] => .refl _
  | y :: l => by
    unfold insI
    split
    · exact .refl _
    · exact ((insI_perm x l).cons y).trans (.swap x y l)
theorem sortI_perm : ∀ l : List Int, (sortI l).Perm l
  | [] => .refl _
  | x :: l => (insI_perm x _).trans ((sortI_perm l).cons x)
theorem insI_sorted (x : Int) : ∀ l : List Int, l.Pairwise (· ≤ ·) → (insI x l).Pairwise (· ≤ ·)
  | [], _ => by simp [insI]
  | y :: l, h => by
    unfold insI
    obtain ⟨h1, h2⟩ := List.pairwise_cons.mp h
    split
    · rename_i hx
      refine List.pairwise_cons.mpr ⟨fun z m => ?_, h⟩
      rcases List.mem_cons.mp m with m | m
      · rw [m]; exact hx
      · have := h1 z m; omega
    · rename_i hx
      refine List.pairwise_cons.mpr ⟨fun z m => ?_, insI_sorted x l h2⟩
      rcases List.mem_cons.mp ((insI_perm x l).mem_iff.mp m) with m | m
      · omega
      · exact h1 z m
theorem sortI_sorted : ∀ l : List Int, (sortI l).Pairwise (· ≤ ·)
  | [] => .nil
  | x :: l => insI_sorted x _ (sortI_sorted l)
theorem sorted_one {a b : List Int} (p : a.Perm b) (ha : a.Pairwise (· ≤ ·)) (hb : b.Pairwise (· ≤ ·)) : a = b :=
  p.eq_of_pairwise (fun x y _ _ h1 h2 => by omega) ha hb
def pairsOf : List D → Option (List (Int × Int))
  | [] => some []
  | .tuple [.int i, .int j] :: r => (pairsOf r).map ((i, j) :: ·)
  | _ => none
theorem pairsOf_eq : ∀ {ds : List D} {ps : List (Int × Int)}, pairsOf ds = some ps → ds = ps.map pairI := fun {ds} => by
  induction ds with
  | nil => intro ps h; cases h; rfl
  | cons d r ih =>
    intro ps h
    unfold pairsOf at h
    split at h
    · rename_i e
      cases e
    · rename_i e
      cases e
      obtain ⟨qs, hq, rfl⟩ := Option.map_eq_some_iff.mp h
      rw [ih hq]
      rfl
    · cases h
def sortD (ds : List D) : Option (List D) := match intsOf ds with
  | some ns => some ((sortI ns).map .int)
  | none => (pairsOf ds).map fun ps => (sortP ps).map pairI
def cb1 : Bf → List D → Option Rz
  | .len, [.list ds] => some (.d (.int ds.length))
  | .len, [.tuple ds] => some (.d (.int ds.length))
  | .abs, [.int i] => some (.d (.int (if i < 0 then -i else i)))
  | .int, [.int i] => some (.d (.int i))
  | .int, [.bool b] => some (.d (.int (if b then 1 else 0)))
  | .tuple, [.list ds] => some (.d (.tuple ds))
  | .list, [.list ds] => some (.n ds)
  | .list, [.tuple ds] => some (.n ds)
  | .list, [.dict ds] => (unK ds).map fun kvs => .n (kvs.map fun p => keyOf p.1)
  | .len, [.dict ds] => (unK ds).map fun kvs => .d (.int kvs.length)
  | .all, [.list ds] => (boolsOf ds).map fun bs => .d (.bool (bs.all id))
  | .any, [.list ds] => (boolsOf ds).map fun bs => .d (.bool (bs.any id))
  | .max, [.list ds] => (intsOf ds).bind fun ns => match ns with | [] => none | n :: ns => some (.d (.int (ns.foldl max n)))
  | .max, [.tuple ds] => (intsOf ds).bind fun ns => match ns with | [] => none | n :: ns => some (.d (.int (ns.foldl max n)))
  | .min, [.list ds] => (intsOf ds).bind fun ns => match ns with | [] => none | n :: ns => some (.d (.int (ns.foldl min n)))
  | .min, [.tuple ds] => (intsOf ds).bind fun ns => match ns with | [] => none | n :: ns => some (.d (.int (ns.foldl min n)))
  | .max, [.int i, .int j] => some (.d (.int (if j > i then j else i)))
  | .min, [.int i, .int j] => some (.d (.int (if j < i then j else i)))
  | .sum, [.list ds] => (intsOf ds).map fun ns => .d (.int ns.sum)
  | .sorted, [.list ds] => (sortD ds).map fun zs => .n zs
  | .repr, [.int i] => if i.natAbs.log2 < 1920 then some (.d (.str (toString i))) else none
  | .repr, [.list ds] => if (PyData.list ds).showable = true ∧ (PyData.list ds).hasDict = false ∧ (PyData.list ds).depth ≤ 64 ∧ (PyData.list ds).shown.length ≤ sizeLine then some (.d (.str (PyData.list ds).shown)) else none
  | .repr, [.tuple ds] => if (PyData.tuple ds).showable = true ∧ (PyData.tuple ds).hasDict = false ∧ (PyData.tuple ds).depth ≤ 64 ∧ (PyData.tuple ds).shown.length ≤ sizeLine then some (.d (.str (PyData.tuple ds).shown)) else none
  | .str, [.int i] => if i.natAbs.log2 < 1920 then some (.d (.str (toString i))) else none
  | .len, [.str x] => if x.length ≤ sizeLine then some (.d (.int x.length)) else none
  | _, _ => none
abbrev CRd := List V → Hp → VK → Prop
def rMax2 : CRd := fun xs H Q => ∃ i j, xs = [.int i, .int j] ∧ Q (.int (if j > i then j else i)) H
def rMin2 : CRd := fun xs H Q => ∃ i j, xs = [.int i, .int j] ∧ Q (.int (if j < i then j else i)) H
def rStrI : CRd := fun xs H Q => ∃ i : Int, xs = [.int i] ∧ i.natAbs.log2 < 1920 ∧ Q (.str (toString i)) H
def rLenS : CRd := fun xs H Q => ∃ z, xs = [.str z] ∧ z.length ≤ sizeLine ∧ Q (.int z.length) H
def bfK (K : PySem.W.Frag) : Bf → CRd
  | .len => fun xs H Q => (DL.rLen K xs H Q ∨ ∃ a kvs, xs = [V.ref a] ∧ H a = some (.dK kvs) ∧ Q (.int kvs.length) H) ∨ rLenS xs H Q
  | .abs => DL.rAbs
  | .int => DL.rInt1
  | .tuple => DL.rTuple K
  | .list => fun xs H Q => DL.rList K xs H Q ∨ rListD xs H Q
  | .all => rAll K
  | .any => rAny K
  | .max => fun xs H Q => uMax K xs H Q ∨ rMax2 xs H Q
  | .min => fun xs H Q => uMin K xs H Q ∨ rMin2 xs H Q
  | .sum => rSum K
  | .sorted => fun xs H Q => rSortedI K xs H Q ∨ rSrtP K xs H Q
  | .repr => uRepr K
  | .str => rStrI
theorem CallR.or {X : Cx} {f : Value} {r r' : CRd} (h : CallR X f r) (h' : CallR X f r') : CallR X f (fun xs H Q => r xs H Q ∨ r' xs H Q) := by
  intro pins s σ H xs us Q I r q
  rcases q with q | q
  · exact h pins s σ H xs us Q I r q
  · exact h' pins s σ H xs us Q I r q
theorem cf_len {X : Cx} : CallR X (.builtin "len") (bfK X.K .len) := CallR.or (CallR.or cr_len call_lenD) L2.call_len_str
theorem cf_abs {X : Cx} : CallR X (.builtin "abs") (bfK X.K .abs) := cr_abs
theorem cf_int {X : Cx} : CallR X (.type "int") (bfK X.K .int) := cr_int
theorem cf_tuple {X : Cx} : CallR X (.type "tuple") (bfK X.K .tuple) := cr_tuple
theorem cf_repr {X : Cx} (gA : X.A.guards = some []) (hu : X.A.units + 70 < cLine) : CallR X (.builtin "repr") (bfK X.K .repr) := cr_uRepr gA hu
def CzOk (K : PySem.W.Frag) (r : CRd) (ds : List D) : Rz → Prop
  | .d z => RCD K r ds z
  | .n zs => RCN K r ds zs
theorem rc_two {f : Int → Int → Int} {i j : Int} : RCD K (fun xs H Q => ∃ i j, xs = [.int i, .int j] ∧ Q (.int (f i j)) H) [.int i, .int j] (.int (f i j)) := fun F H xs Q _ a q => by
  obtain ⟨v, w, rfl, a1, a2⟩ := a.two
  exact ⟨i, j, by rw [a1.int, a2.int], q _ F H (.at (.int _))⟩
theorem rc_sum {ns : List Int} : RCD K (rSum K) [.list (ns.map .int)] (.int ns.sum) := fun F H xs Q f a q => by
  obtain ⟨v, rfl, a1⟩ := a.one
  obtain ⟨p, vs, rfl, h1, k1⟩ := a1.list f
  rw [dp_ints k1] at h1
  exact ⟨p, ns, rfl, h1, q _ F H (.at (.int _))⟩
theorem rc_strI {i : Int} (h : i.natAbs.log2 < 1920) : RCD K rStrI [.int i] (.str (toString i)) := fun F H xs Q f a q => by
  obtain ⟨v, rfl, a1⟩ := a.one
  exact ⟨i, by rw [a1.int], h, q _ F H (.at (.str _))⟩
theorem rcd_or1 {r r' : CRd} {ds : List D} {z : D} (h : RCD K r ds z) : RCD K (fun xs H Q => r xs H Q ∨ r' xs H Q) ds z := fun F H xs Q f a q => .inl (h F H xs Q f a q)
theorem rcn_or1 {r r' : CRd} {ds zs : List D} (h : RCN K r ds zs) : RCN K (fun xs H Q => r xs H Q ∨ r' xs H Q) ds zs := fun F H xs Q f a q => .inl (h F H xs Q f a q)
theorem rcn_or2 {r r' : CRd} {ds zs : List D} (h : RCN K r' ds zs) : RCN K (fun xs H Q => r xs H Q ∨ r' xs H Q) ds zs := fun F H xs Q f a q => .inr (h F H xs Q f a q)
theorem rcd_or2 {r r' : CRd} {ds : List D} {z : D} (h : RCD K r' ds z) : RCD K (fun xs H Q => r xs H Q ∨ r' xs H Q) ds z := fun F H xs Q f a q => .inr (h F H xs Q f a q)
theorem rc_lenS {x : Str} (h : x.length ≤ sizeLine) : RCD K rLenS [.str x] (.int x.length) := fun F H xs Q f a q => by
  obtain ⟨v, rfl, a1⟩ := a.one
  exact ⟨x, by rw [a1.str], h, q _ F H (.at (.int _))⟩
theorem cb1_ok (f : Bf) (ds : List D) (z : Rz) (h : cb1 f ds = some z) : CzOk K (bfK K f) ds z := by
  revert h
  unfold cb1
  split <;> intro h
  case h_1 => cases h; exact rcd_or1 (rcd_or1 rc_lenL)
  case h_2 => cases h; exact rcd_or1 (rcd_or1 rc_lenT)
  case h_3 => cases h; exact rc_abs
  case h_4 => cases h; exact rc_int
  case h_5 => cases h; exact rc_intB
  case h_6 => cases h; exact rc_tupL
  case h_7 => cases h; exact rcn_or1 rc_listL
  case h_8 => cases h; exact rcn_or1 rc_listT
  case h_9 =>
    obtain ⟨kvs, h1, rfl⟩ := Option.map_eq_some_iff.mp h
    exact rcn_or2 (rc_listK h1)
  case h_10 =>
    obtain ⟨kvs, h1, rfl⟩ := Option.map_eq_some_iff.mp h
    exact rcd_or1 (rcd_or2 (rc_lenK h1))
  case h_11 =>
    obtain ⟨bs, h1, rfl⟩ := Option.map_eq_some_iff.mp h
    rw [boolsOf_eq h1]; exact rc_all
  case h_12 =>
    obtain ⟨bs, h1, rfl⟩ := Option.map_eq_some_iff.mp h
    rw [boolsOf_eq h1]; exact rc_any
  case h_13 =>
    obtain ⟨ns, h1, h2⟩ := Option.bind_eq_some_iff.mp h
    rw [intsOf_eq h1]
    cases ns with
    | nil => cases h2
    | cons n ns => cases h2; exact rcd_or1 rc_maxL
  case h_14 =>
    obtain ⟨ns, h1, h2⟩ := Option.bind_eq_some_iff.mp h
    rw [intsOf_eq h1]
    cases ns with
    | nil => cases h2
    | cons n ns => cases h2; exact rcd_or1 rc_maxT
  case h_15 =>
    obtain ⟨ns, h1, h2⟩ := Option.bind_eq_some_iff.mp h
    rw [intsOf_eq h1]
    cases ns with
    | nil => cases h2
    | cons n ns => cases h2; exact rcd_or1 rc_minU
  case h_16 =>
    obtain ⟨ns, h1, h2⟩ := Option.bind_eq_some_iff.mp h
    rw [intsOf_eq h1]
    cases ns with
    | nil => cases h2
    | cons n ns => cases h2; exact rcd_or1 rc_minT
  case h_17 => cases h; exact rcd_or2 (rc_two (f := fun i j => if j > i then j else i))
  case h_18 => cases h; exact rcd_or2 (rc_two (f := fun i j => if j < i then j else i))
  case h_19 =>
    obtain ⟨ns, h1, rfl⟩ := Option.map_eq_some_iff.mp h
    rw [intsOf_eq h1]; exact rc_sum
  case h_20 =>
    obtain ⟨zs, h1, rfl⟩ := Option.map_eq_some_iff.mp h
    unfold sortD at h1
    split at h1
    · rename_i ns h2
      cases h1
      rw [intsOf_eq h2]; exact rcn_or1 (rc_sorted fun ns' p s => sorted_one (p.trans (sortI_perm ns).symm) s (sortI_sorted ns))
    · obtain ⟨ps, h3, rfl⟩ := Option.map_eq_some_iff.mp h1
      rw [pairsOf_eq h3]; exact rcn_or2 rc_srtP
  case h_21 =>
    split at h
    · cases h; exact rc_uReprI ‹_›
    · cases h
  case h_22 =>
    split at h
    · rename_i hh
      cases h; exact rc_uReprD (.inl ⟨_, rfl⟩) hh.1 hh.2.1 hh.2.2.1 hh.2.2.2
    · cases h
  case h_23 =>
    split at h
    · rename_i hh
      cases h; exact rc_uReprD (.inr ⟨_, rfl⟩) hh.1 hh.2.1 hh.2.2.1 hh.2.2.2
    · cases h
  case h_24 =>
    split at h
    · cases h; exact rc_strI ‹_›
    · cases h
  case h_25 =>
    split at h
    · cases h; exact rcd_or2 (rc_lenS ‹_›)
    · cases h
  case h_26 => cases h
end EV
namespace DL
open PySem PySem.Spec PyProof.Rows L2
abbrev Su := Addr → Value → Option Addr → TS
def wiped (i : Nat) (D : Ends) : Ends where
  nx τ G := D.nx (τ.set i none) G
  rt := D.rt
  bk τ G := D.bk (τ.set i none) G
  ct τ G := D.ct (τ.set i none) G
/-- what the clauses wish, one after the other -/
def wNmd (K : PySem.W.Frag) (i : Nat) (W0 : WX) (D : Ends) : List (Value × Su) → WX
  | [] => W0
  | q :: r => fun C d τ G => ∃ b, PySem.W.exmOne K C q.1 = some b ∧ (if b then ∀ p, G p = none → q.2 p C d (wiped i D) (τ.set i (some (.ref p))) G else wNmd K i W0 D r C d τ G)
/-- the clauses, read -/
inductive Clauses (X : Cx) (n : Str) : List ExceptHandler → List (Value × Su) → Prop
  | nil : Clauses X n [] []
  | cons {x : Str} {c : Value} {f : Su} {b : Stmt} {bs : List Stmt} {np hp : Pos} {hs : List ExceptHandler} {r : List (Value × Su)} (nm : Names X x c)
      (su : ∀ (p : Addr) (o : Obj) (C : Value) (d : Option Addr) (pn : List (Addr × Obj)), Zc C d o → (∃ vs, o.data = .fields vs) → PSs (X.suite p ((p, o) :: pn)) (b :: bs) (f p C d)) (t : Clauses X n hs r) :
      Clauses X n (.ExceptHandler (some (.Name x np)) (some n) (b :: bs) hp :: hs) ((c, f) :: r)
section
variable {X : Cx} {n : Str} {i : Nat} {W0 : WX}
/-- the exception at p has landed -/
structure Here (X : Cx) (pins : List (Addr × Obj)) (τ : L2.St) (G : Hp) (B : Heap) (p : Addr) (C : Value) (d : Option Addr) (s : Shared) (sI : Shared) : Prop where
  inv : Inv X pins τ G sI
  old : ∀ q o, sI.heap.get? q = some o → q ∉ frs X.stack → B.get? q = some o
  os : s.os = sI.os
  ag : AllBare s.gens
  up : sI.heap.UpToSlots s.heap
  fly : HandSPX.FlyingZ B (X.env :: X.outer) p (Zc C d) s.heap
  free : G p = none
variable {pins : List (Addr × Obj)} {τ : L2.St} {G : Hp} {B : Heap} {p : Addr} {C : Value} {d : Option Addr} {s sI : Shared}
theorem Here.now (y : Here X pins τ G B p C d s sI) : Inv X pins τ G s := y.inv.landed y.old y.fly.1 y.up y.os y.ag
/-- within the suite -/
theorem Here.within (y : Here X pins τ G B p C d s sI) (hf : X.env.frame = some X.env.locals) :
    ∃ o, s.heap.get? p = some o ∧ Zc C d o ∧ (∃ vs, o.data = .fields vs) ∧ Inv (X.suite p ((p, o) :: (X.pn ++ pins))) [] τ G s := by
  obtain ⟨o, vs, e, z, dt⟩ := y.fly.there
  have out : p ∉ frs (X.env :: X.outer) := fun m => by
    obtain ⟨_, o2, e2, no⟩ := y.fly.2.2.1.mem m
    cases e.symm.trans e2
    exact no vs dt
  refine ⟨o, e, z, ⟨vs, dt⟩, y.now.suite e dt y.free (fun q => out ?_) fun m => ?_⟩
  · subst q
    exact List.mem_filterMap.mpr ⟨X.env, .head _, hf⟩
  · obtain ⟨v, hv, q⟩ := List.mem_filterMap.mp m
    exact out (List.mem_filterMap.mpr ⟨v, .tail _ hv, q⟩)
/-- no clause is left: it flies on -/
theorem Here.on (y : Here X pins τ G B p C d s sI) (hs : X.stack = X.env :: X.outer) (hf : X.env.frame = some X.env.locals) (tk : Takes X W0) {R : Flow → Shared → Prop} (w : W0 C d τ G) :
    wpAny (model X.prog X.w) X.A (handleBy (.ref p) X.env []) R X.xe s := by
  obtain ⟨_, _, _, o, vs, T, _, _, e, _, dt, e1, _⟩ := id y.fly
  have last : wpAny (model X.prog X.w) X.A (setFlight (.ref p) X.env.frame) (fun _ t => wpAny (model X.prog X.w) X.A (throw (.ref p) : Sem Flow) R X.xe t) X.xe s := by
    rw [hf]
    exact HandSPX.setFlight_upZ y.fly fun h2 k2 u2 => wpAny_throw (tk _ _ ⟨p, B, sI, pins, τ, G, C, d, rfl, y.inv, y.old, y.up.trans u2, by rw [hs]; exact .inr (.inr k2), y.free, y.os, y.ag, w⟩)
  refine wpAny_handleBy_nil ?_
  unfold PySem.passOn
  refine wpAny_bind (wpAny_field e dt e1 ?_)
  rw [if_neg (by simp : ¬ (Value.ref T == Value.none) = true)]
  first
    | exact wpAny_bind (wpAny_pure (wpAny_bind last))
    | exact wpAny_bind last
theorem clauses_run (ok : X.Ok) (hs : X.stack = X.env :: X.outer) (hf : X.env.frame = some X.env.locals) (hN : X.N.Nodup) (hi : X.N[i]? = some n) (hl : X.env.kindOf n = some .local) (tk : Takes X W0) {D : Ends}
    {hds : List ExceptHandler} {l : List (Value × Su)} (cl : Clauses X n hds l) (y : Here X pins τ G B p C d s sI) (w : wNmd X.K i W0 D l C d τ G) : wpAny (model X.prog X.w) X.A (handleBy (.ref p) X.env hds) (SP X pins D) X.xe s := by
  induction cl with
  | nil => exact y.on hs hf tk w
  | @cons x cv cf b bs np hp hds2 r nm su t ih =>
    obtain ⟨c, hc, w⟩ := w
    obtain ⟨o, eo, zo, _, inS⟩ := y.within hf
    have looks := PySem.W.exm_one (M := model X.prog X.w) y.now.kIn (fun _ _ _ _ k r => wpAny_typeOf_ref (k _ _ eo) (by rw [zo.1]; exact r)) hc
    have name : ∀ {R E : Value → Shared → Prop}, R cv s → wpAny (model X.prog X.w) (X.A.mark (some (.ref p))) (eval (.Name x np) X.env) R E s := fun {R E} r => by
      rcases nm with ⟨h1, h2, h3 | ⟨h3, h4, h5⟩⟩
      · exact ld_glob (X := X.suite p ((p, o) :: (X.pn ++ pins))) inS h1 h3 r h2
      · exact ld_blt (X := X.suite p ((p, o) :: (X.pn ++ pins))) inS h1 h3 h4 r h5 h2
    refine wpAny_handleBy_cons (codeAny_handlers_test (name (looks.here ?_))) (by intro z; cases z)
    cases c with
    | false => exact ih w
    | true =>
      refine codeAny_handlers_suite_as (HandSPX.lands_againZ y.fly fun h2 f2 u2 => ?_)
      have y2 : Here X pins τ G B p C d { s with heap := h2 } sI := ⟨y.inv, y.old, y.os, y.ag, y.up.trans u2, f2, y.free⟩
      obtain ⟨o2, e2, z2, dt2, S2⟩ := y2.within hf
      refine store_ok (X := X.suite p ((p, o2) :: (X.pn ++ pins))) (v := .ref p) S2 hN hi (.inl hl) rfl (fun s3 S3 => ?_) (.inr hl)
      refine wpAny_mono ((su p o2 C d (X.pn ++ pins) z2 dt2).run [] s3 _ G _ S3 (w p y.free)) (fun f s4 h4 => ?_) (fun _ _ z => z.elim)
      cases f with
      | ret u =>
        obtain ⟨v, τ', G', S4, r4, q4⟩ := h4
        exact gone_ok (S4.unsuite ok) hN hi hl fun _ J => ⟨v, _, G', J, r4, q4⟩
      | next =>
        obtain ⟨τ', G', S4, q4⟩ := h4
        exact gone_ok (S4.unsuite ok) hN hi hl fun _ J => ⟨_, G', J, q4⟩
      | brk =>
        obtain ⟨τ', G', S4, q4⟩ := h4
        exact gone_ok (S4.unsuite ok) hN hi hl fun _ J => ⟨_, G', J, q4⟩
      | cont =>
        obtain ⟨τ', G', S4, q4⟩ := h4
        exact gone_ok (S4.unsuite ok) hN hi hl fun _ J => ⟨_, G', J, q4⟩
theorem ps_tryN {hd : ExceptHandler} {hds : List ExceptHandler} {l : List (Value × Su)} {body : List Stmt} {pos : Pos} {tb : WX → TS} (hs : X.stack = X.env :: X.outer) (hf : X.env.frame = some X.env.locals) (hN : X.N.Nodup) (hi : X.N[i]? = some n) (hl : X.env.kindOf n = some .local) (tk : Takes X W0)
    (bd : ∀ (W : WX) (pn : List (Addr × Obj)) (xe : Value → Shared → Prop), Takes (X.tr pn xe) W → PassesOwn (model X.prog X.w) X.A X.env xe → PSs (X.tr pn xe) body (tb W)) (cl : Clauses X n (hd :: hds) l) :
    PS X (.Try body (hd :: hds) [] [] pos) (fun D τ G => tb (wNmd X.K i W0 D l) D τ G) := by
  constructor
  intro pins s τ G D I w
  have ok := I.ok
  refine wpAny_Try_except (wpAny_mono ((bd (wNmd X.K i W0 D l) (X.pn ++ pins) (fun e s1 => wpAny (model X.prog X.w) X.A (noteFrame e X.env) (fun _ s2 => wpAny (model X.prog X.w) X.A (setFlight e none) (fun _ s3 => wpAny (model X.prog X.w) X.A (handleBy e X.env (hd :: hds)) (SP X pins D) X.xe s3) X.xe s2) X.xe s1) ?_ PassesOwn.looking).run [] s τ G D (I.toTry _) w) ?_ fun _ _ z => z)
  · rintro u s2 ⟨p, B, sI, pins2, τ2, G2, C, d, rfl, J, old, up, sky, free, os, ag, w2⟩
    have fr : X.A.frames = some (X.env :: X.outer) := by rw [ok.frames, hs]
    refine Sky.land Zc.steady fr hf (by rw [← hs]; exact sky) fun h3 f3 u3 => ?_
    exact clauses_run ok hs hf hN hi hl tk cl ⟨J.ofTry ok, old, os, ag, up.trans u3, f3, free⟩ w2
  · intro f s2 h2
    cases f with
    | next =>
      obtain ⟨τ', G', J, q⟩ := h2
      exact wpAny_execs_nil ⟨τ', G', J.ofTry ok, q⟩
    | brk => obtain ⟨τ', G', J, q⟩ := h2; exact ⟨τ', G', J.ofTry ok, q⟩
    | cont => obtain ⟨τ', G', J, q⟩ := h2; exact ⟨τ', G', J.ofTry ok, q⟩
    | ret u => obtain ⟨v, τ', G', J, r, q⟩ := h2; exact ⟨v, τ', G', J.ofTry ok, r, q⟩
end
end DL
namespace DL
open PySem PySem.Spec PyProof.Rows L2
variable [TabC]
inductive Tz where
  | one (c : Addr)
  | any (cs : List Addr)
  | nt (t : Tz)
  | an (t u : Tz)
  | or (t u : Tz)
/-- what a clause gives back -/
inductive Hx where
  | tst (t : Tz)
  | pick (x y : Str) (t : Tz)
  | pair (x : Str) (t : Tz)
  | non
  | bl (b : Bool)
  | int (n : Int)
  | str (x : Str)
def sub (S C c : Addr) : Bool := decide (C = c ∨ c = S)
def evZ (S C : Addr) : Tz → Bool
  | .one c => sub S C c
  | .any cs => cs.any (sub S C)
  | .nt t => !evZ S C t
  | .an t u => evZ S C t && evZ S C u
  | .or t u => evZ S C t || evZ S C u
def evHx (S C : Addr) : Hx → D
  | .tst t => .bool (evZ S C t)
  | .pick x y t => .str (if evZ S C t then y else x)
  | .pair x t => .tuple [.str x, .bool (evZ S C t)]
  | .non => .none
  | .bl b => .bool b
  | .int n => .int n
  | .str x => .str x
def evHs (S C : Addr) : List (Addr × Hx) → Option D
  | [] => none
  | h :: r => if sub S C h.1 then some (evHx S C h.2) else evHs S C r
def denZ (K : PySem.W.Frag) (i : Nat) (a : Addr) (cls : Value) (d : Option Addr) : Tz → TE
  | .one c => tCB (rIsX K a cls d) (tCons (tVar i) (tCons (tC (.ref c)) tNil))
  | .any cs => tCB (rIsX K a cls d) (tCons (tVar i) (tCons (tTup (tRefs cs)) tNil))
  | .nt t => tNotV (denZ K i a cls d t)
  | .an t u => tAndV (denZ K i a cls d t) (denZ K i a cls d u)
  | .or t u => tOrV (denZ K i a cls d t) (denZ K i a cls d u)
/-- the classes that are named -/
def tzN : Tz → List Addr
  | .one c => [c]
  | .any cs => cs
  | .nt t => tzN t
  | .an t u => tzN t ++ tzN u
  | .or t u => tzN t ++ tzN u
def tzL : Tz → Bool
  | .one _ => true
  | .any cs => decide (cs.length ≤ 1000)
  | .nt t => tzL t
  | .an t u => tzL t && tzL u
  | .or t u => tzL t && tzL u
def KClz (K : PySem.W.Frag) (S C : Addr) : Prop := ExcC K C ∧ PySem.W.isClsIn K C = true ∧ PySem.W.typeIn K (.ref C) = some (.type "type") ∧ PySem.W.subIn K (.ref C) (.ref C) = some true ∧ PySem.W.subIn K (.ref C) (.ref S) = some true
def KTwz (K : PySem.W.Frag) (p q : Addr) : Prop := PySem.W.subIn K (.ref p) (.ref q) = some false ∧ PySem.W.subIn K (.ref q) (.ref p) = some false
/-- S the class above, cs classes beneath it, none above another -/
def KsOk (K : PySem.W.Frag) (S : Addr) (cs : List Addr) : Prop :=
  (PySem.W.subIn K (.ref S) (.type "BaseException") = some true ∧ PySem.W.isClsIn K S = true ∧ PySem.W.typeIn K (.ref S) = some (.type "type")) ∧ (∀ C ∈ cs, KClz K S C) ∧ cs.Pairwise (KTwz K)
theorem ks_two {K : PySem.W.Frag} {cs : List Addr} (h : cs.Pairwise (KTwz K)) : ∀ {C c : Addr}, C ∈ cs → c ∈ cs → C = c ∨ PySem.W.subIn K (.ref C) (.ref c) = some false := by
  induction h with
  | nil => intro _ _ m; cases m
  | cons h1 _ ih =>
    intro C c m1 m2
    rcases List.mem_cons.mp m1 with e1 | k1 <;> rcases List.mem_cons.mp m2 with e2 | k2
    · exact .inl (e1.trans e2.symm)
    · rw [e1]; exact .inr (h1 _ k2).1
    · rw [e2]; exact .inr (h1 _ k1).2
    · exact ih k1 k2
theorem ks_sub {K : PySem.W.Frag} {S C c : Addr} {cs : List Addr} (h : KsOk K S cs) (m : C ∈ cs) (m2 : c = S ∨ c ∈ cs) : PySem.W.subIn K (.ref C) (.ref c) = some (sub S C c) ∧ PySem.W.isClsIn K c = true ∧ PySem.W.typeIn K (.ref c) = some (.type "type") := by
  obtain ⟨h1, h2, h3⟩ := h
  unfold sub
  rcases m2 with rfl | m2
  · simp only [or_true, decide_true]
    exact ⟨(h2 C m).2.2.2.2, h1.2.1, h1.2.2⟩
  · refine ⟨?_, (h2 c m2).2.1, (h2 c m2).2.2.1⟩
    rcases ks_two h3 m m2 with rfl | e
    · simp only [true_or, decide_true]
      exact (h2 C m).2.2.2.1
    · by_cases z : c = S
      · subst z
        simp only [or_true, decide_true]
        exact (h2 C m).2.2.2.2
      · by_cases y : C = c
        · subst y
          rw [(h2 C m).2.2.2.1] at e
          cases e
        · simp only [z, y, or_self, decide_false]
          exact e
theorem ks_ne {K : PySem.W.Frag} {S : Addr} {cs : List Addr} (h : KsOk K S cs) : cs.Nodup := by
  obtain ⟨_, h2, h3⟩ := h
  refine h3.imp_of_mem fun {a b} ma mb hab z => ?_
  have := (h2 a ma).2.2.2.1
  rw [z] at this
  rw [KTwz, z, this] at hab
  cases hab.1
/-- the class above is another one, if there are two beneath it -/
theorem ks_nd2 {K : PySem.W.Frag} {S a b : Addr} {cs : List Addr} (h : KsOk K S (a :: b :: cs)) : (S :: a :: b :: cs).Nodup := by
  refine List.nodup_cons.mpr ⟨fun m => ?_, ks_ne h⟩
  obtain ⟨_, h2, h3⟩ := h
  by_cases q : S = a
  · subst q
    have := (List.pairwise_cons.mp h3).1 b (List.mem_cons_self)
    have k := (h2 b (List.mem_cons_of_mem _ List.mem_cons_self)).2.2.2.2
    rw [this.2] at k
    cases k
  · rcases List.mem_cons.mp m with e | m2
    · exact q e
    · have := ((List.pairwise_cons.mp h3).1 S m2).1
      have k := (h2 a List.mem_cons_self).2.2.2.2
      rw [this] at k
      cases k
theorem ks_kit {K : PySem.W.Frag} {S C c : Addr} {cs : List Addr} (h : KsOk K S cs) (m : C ∈ cs) (m2 : c = S ∨ c ∈ cs) : PySem.W.kitOne K (.ref C) (.ref c) = some (sub S C c) := by
  obtain ⟨k1, k2, k3⟩ := ks_sub h m m2
  unfold PySem.W.kitOne PySem.W.kitCls
  have h5 : (PySem.W.clsIn K c).isSome = true := k2
  split
  · rename_i z
    have z := eq_of_beq z
    injection z with z
    unfold sub
    simp [z]
  · simp [k3, k1, h5]
theorem ks_exm {K : PySem.W.Frag} {S C c : Addr} {cs : List Addr} (h : KsOk K S cs) (m : C ∈ cs) (m2 : c = S ∨ c ∈ cs) : PySem.W.exmOne K (.ref C) (.ref c) = some (sub S C c) := by
  obtain ⟨k1, k2, k3⟩ := ks_sub h m m2
  have k4 : PySem.W.subIn K (.ref c) (.type "BaseException") = some true := by
    rcases m2 with rfl | m2
    · exact h.1.1
    · exact (h.2.1 c m2).1.hs
  unfold PySem.W.exmOne PySem.W.kitCls
  have h5 : (PySem.W.clsIn K c).isSome = true := k2
  simp [k4, k3, k1, h5]
theorem ks_any {K : PySem.W.Frag} {S C : Addr} {cs : List Addr} (h : KsOk K S cs) (m : C ∈ cs) : ∀ {l : List Addr}, (∀ c ∈ l, c = S ∨ c ∈ cs) → PySem.W.kitAny K (.ref C) (l.map Value.ref) = some (l.any (sub S C))
  | [], _ => rfl
  | c :: l, hl => by
    have e := ks_kit h m (hl c List.mem_cons_self)
    have e2 := ks_any h m (l := l) fun c mc => hl c (List.mem_cons_of_mem _ mc)
    rw [List.map_cons, List.any_cons]
    unfold PySem.W.kitAny
    rw [e]
    cases sub S C c with
    | true => rfl
    | false => simpa using e2
section
variable {K : PySem.W.Frag} {g : Gm} {ρ : Rho} {i : Nat} {a S C : Addr} {cs : List Addr}
theorem var_fn {c : Cc} {F H : Hp} {σ : L2.St} (h : ρ[i]? = some (.dat (fnD a))) (s : Sim c F H σ ρ) : σ[i]? = some (some (.ref a)) := by
  obtain ⟨v, e, x⟩ := s.dat h
  rw [e, dx_fn x]
theorem ed_z (hk : KsOk g.K S cs) (m : C ∈ cs) (h : ρ[i]? = some (.dat (fnD a))) : ∀ {t : Tz}, (∀ c ∈ tzN t, c = S ∨ c ∈ cs) → tzL t = true → EvD g (denZ g.K i a (.ref C) none t) ρ (.bool (evZ S C t)) ρ
  | .one c, hn, _ => fun cc F H σ k s Q q => by
    refine ⟨_, var_fn h s, C, rfl, rfl, (hk.2.1 C m).1, .inl ⟨c, _, rfl, ks_kit hk m (hn c List.mem_cons_self), ?_⟩⟩
    exact q _ F H s (Same.refl _) (.bl _)
  | .any l, hn, hl => fun cc F H σ k s Q q => by
    have hl : l.length ≤ 1000 := of_decide_eq_true hl
    refine ⟨_, var_fn h s, tRefs_ok l σ H _ ⟨by rw [List.length_map, sizeLine_eq]; omega, fun p hp => ⟨C, rfl, rfl, (hk.2.1 C m).1, .inr ⟨p, l, _, rfl, upd_same, ks_any hk m hn, ?_⟩⟩⟩⟩
    exact q _ F _ (s.heap hp) (Same.refl _) (.bl _)
  | .nt t, hn, hl => ed_not (ed_z hk m h hn hl)
  | .an t u, hn, hl => by
    have hl := Bool.and_eq_true_iff.mp hl
    exact ed_and (ed_z hk m h (fun c mc => hn c (List.mem_append_left _ mc)) hl.1) fun _ => ed_z hk m h (fun c mc => hn c (List.mem_append_right _ mc)) hl.2
  | .or t u, hn, hl => by
    have hl := Bool.and_eq_true_iff.mp hl
    exact ed_or (ed_z hk m h (fun c mc => hn c (List.mem_append_left _ mc)) hl.1) fun _ => ed_z hk m h (fun c mc => hn c (List.mem_append_right _ mc)) hl.2
end
end DL
namespace DL
open PySem PySem.Spec PyProof.Rows L2
variable {X : Cx} {pins : List (Addr × Obj)} {σ : L2.St} {H : Hp} {s : Shared} {P : Addr}
theorem tabP_keeps {h h' : Heap} (t : tabP P h) (k : ∀ o, h.get? P = some o → h'.get? P = some o) : tabP P h' := let ⟨ps, e, q⟩ := t; ⟨ps, k _ e, q⟩
/-- the table's object is another one, all else stays -/
theorem inv_ext {h' : Heap} {g' : Array GenState} {d' : Drawn} {t' : Nat} (I : Inv X pins σ H s) (hP : H P = some (.ext (tabP P))) (k : ∀ b o, b ≠ P → s.heap.get? b = some o → h'.get? b = some o) (hm : tabP P h') (hg : AllBare g') :
    Inv X pins σ H { s with heap := h', gens := g', drawn := d', toks := t' } := by
  have ne : ∀ {b : Addr} {u : Option HO}, H b = u → u ≠ some (.ext (tabP P)) → b ≠ P := fun e q z => q (by rw [← e, z]; exact hP)
  refine I.step (ch := []) (fun b m => nomatch m) (fun b o _ _ _ e n => k b o (ne n nofun) e) (fun b o _ _ _ e n => ⟨o.slots, k b o (ne n nofun) e⟩) (fun _ _ _ _ n => n) (fun b o _ e => ?_) (fun _ _ e => e) (fun _ _ _ e => e) (fun b ps e => ⟨#[], by simpa using e⟩) (fun m n => ?_) (fun b u e => ?_) hg
  · by_cases q : b = P
    · obtain ⟨ps, e2, _⟩ := hm
      exact ⟨_, by rw [q]; exact e2⟩
    · exact ⟨o, k b o q e⟩
  · obtain ⟨o, es, ep, e, r⟩ := n
    exact ⟨o, es, ep, k _ o (ne I.free nofun) e, r⟩
  · by_cases q : b = P
    · subst q
      cases hP.symm.trans e
      exact ⟨hm, let ⟨_, e2, _⟩ := hm; ⟨_, e2⟩, fun h1 h2 t q => tabP_keeps t q⟩
    · refine (I.hok b u e).stay (fun d v hd g => k d v ?_ g) (fun _ g => g) fun _ _ g => g
      rcases hd with z | z
      · rw [z]; exact q
      · exact ne z nofun
/-- all old things but the table -/
def Old (P : Addr) (s s2 : Shared) : Prop := ∀ b o, b ≠ P → s.heap.get? b = some o → s2.heap.get? b = some o
/-- iter(v): a new iterator, that walks over n things -/
def IterAt (X : Cx) (s1 : Shared) (xv : Value) (fp : List Addr) (n : Nat) (SA : Nat → Value → Prop) : Prop :=
  ∀ (A : Around) (E : Value → Shared → Prop) (Q : Value → Shared → Prop), (∀ (o : Obj) (St : Nat → Heap → Prop), (∀ A' : Around, A'.handled = none → Walks X.prog X.w A' s1.heap.objs.size (s1.heap.objs.size :: fp) [s1.heap.objs.size] n SA St) → St 0 (s1.heap.push o) →
    Q (.ref s1.heap.objs.size) { s1 with heap := s1.heap.push o }) → wpAny (model X.prog X.w) A (pyIter xv) Q E s1
/-- the test, for the i-th thing -/
def TestOk (X : Cx) (s1 : Shared) (P : Addr) (scope : Scope) (x : Str) (elt : Expr) (SA : Nat → Value → Prop) (pb : Nat → Bool) : Prop :=
  ∀ (L : Addr) (code : Value) (bi : Addr) (A' : Around) (E' : Value → Shared → Prop) (i : Nat) (v : Value) (s2 : Shared) (m2 : Str → Option Value), A'.handled = none → SA i v → Old P s1 s2 →
    s2.heap.Ns L m2 → m2 x = some v → wpAny (model X.prog X.w) A' (eval elt (genEnv scope (cloFrom X.env.cells scope.names []) L code bi X.env)) (fun y s3 => y = .bool (pb i) ∧ Keeps s2 s3) E' s2
def trB (pb : Nat → Bool) (n j : Nat) : Bool := decide (j < n) && pb j
theorem gen_make {c : Addr} {elt iter : Expr} {x : Str} {px gpos : Pos} {scope : Scope} {k : Nat} {Q' : Value → Shared → Prop} (hr : Room k X.A) (TB : GxR.TabB X.base X.mg c P) (hcode : X.env.code = .ref c) (S : GxR.GenS X.env scope x) (hs : ∀ v, genFold iter X.env v = pure v)
    (h : wpAny (model X.prog X.w) X.A (eval iter X.env) (fun xv s1 => ∃ (H1 : Hp) (fp : List Addr) (n : Nat) (SA : Nat → Value → Prop) (pb : Nat → Bool), Inv X pins σ H1 s1 ∧ H1 P = some (.ext (tabP P)) ∧ IterAt X s1 xv fp n SA ∧ (∀ b ∈ fp, b ≠ P ∧ b < s1.heap.objs.size) ∧ TestOk X s1 P scope x elt SA pb ∧
      ∀ g s5, (∃ (fp wr : List Addr) (G : Array GenState → Array GenState → Prop) (F : Nat → Value → Prop) (St : Nat → Shared → Prop), WalksS X.prog X.w X.A.in1 g fp wr G n F St ∧ St 0 s5 ∧ TruthOf X.prog X.w X.A.in1 F (trB pb n) ∧ ∀ s', Moved wr G s5 s' → Inv X pins σ H1 s') → Q' (.ref g) s5) X.xe s) :
    wpAny (model X.prog X.w) X.A (eval (.GeneratorExp elt [⟨.Name x px, iter, [], 0⟩] scope gpos) X.env) Q' X.xe s := by
  refine wpAny_GeneratorExp_walksQ hr.hd S.co (closure_ok S.free) S.cell S.dot S.loc S.kind (by have := hr.dp; omega) ?_ hs
  refine wpAny_mono h (fun xv s1 hh => ?_) fun _ _ z => z
  obtain ⟨H1, fp, n, SA, pb, I1, hP, it, hfp, test, hQ⟩ := hh
  refine it _ _ _ fun o St W h0 => ?_
  obtain ⟨⟨ps, e1, tri⟩, _, _⟩ := (show ObjOk X.prog X.w H1 s1.heap P (.ext (tabP P)) from I1.hok P _ hP)
  have lt := Heap.lt_size e1
  have e2 : (s1.heap.push o).get? P = some { cls := .none, data := .fields ps } := Heap.get?_push_of_some _ e1
  have cd : PySem.W.CodeHd (s1.heap.push o) c P := TB.code.keeps fun b u e => Heap.get?_push_of_some _ (I1.bk b u e)
  obtain ⟨mc, hns, hlim⟩ := I1.nolimit
  have lim : s1.heap.NoLimit := ⟨mc, hns, hlim⟩
  have neS : cStatics ≠ P := fun z => by
    obtain ⟨o', es, ep, ho, hd, _⟩ := hns
    rw [z, e1] at ho
    cases ho
    cases hd
  have ltS : cStatics < s1.heap.objs.size := hns.lt
  have fin : ∀ (code : Value) (h3 : Heap) (tk : Nat) (qs : Array Value), Heap.ExtBut P (s1.heap.push o) h3 → (s1.heap.push o).objs.size ≤ h3.objs.size → h3.get? P = some { cls := .none, data := .fields qs } → TriplesOk qs.toList →
      wpAny (model X.prog X.w) X.A (builtinsFor X.env.globals X.env.builtins) (fun bi s₄ =>
        ∃ Ia fp wr n₀ Pf St₀ pz F, Value.ref s1.heap.objs.size = .ref Ia ∧ (∀ A' : Around, A'.handled = none → Walks X.prog X.w A' Ia fp wr n₀ Pf St₀) ∧ St₀ 0 s₄.heap ∧ (∀ b ∈ fp, b < s₄.heap.objs.size) ∧ s₄.heap.NoLimit ∧ cStatics ∉ wr ∧
          (∀ href : Heap, (∀ b o, s₄.heap.get? b = some o → href.get? b = some o) → QuietGen X.prog X.w (genEnv scope (cloFrom X.env.cells scope.names []) s₄.heap.objs.size code bi X.env) x [] elt (List.range s₄.heap.objs.size) wr Pf pz F href) ∧
          (∀ a h₅ tk gs, gs.bare = true → s₄.heap.objs.size < a → h₅.objs.size = a + 1 → (∀ b o, s₄.heap.get? b = some o → h₅.get? b = some o) →
            WalksS X.prog X.w X.A.in4 a (a :: s₄.heap.objs.size :: List.range s₄.heap.objs.size) (s₄.heap.objs.size :: wr) (GenOnlyQ s₄.gens.size) (passing pz n₀ 0).length
              (fun j y => ∃ i, (passing pz n₀ 0)[j]? = some i ∧ F i y) (GenAt X.prog X.w X.A.in4 a s₄.gens.size s₄.heap.objs.size (List.range s₄.heap.objs.size) wr pz n₀ F) →
            GenAt X.prog X.w X.A.in4 a s₄.gens.size s₄.heap.objs.size (List.range s₄.heap.objs.size) wr pz n₀ F 0 { s₄ with gens := s₄.gens.push gs, toks := tk, heap := h₅ } →
            Q' (.ref a) { s₄ with gens := s₄.gens.push gs, toks := tk, heap := h₅ })) X.xe { s1 with heap := h3, toks := tk } := by
    intro code h3 tk qs hx hsz hq tri2
    obtain ⟨bm, ob, a1, a2, a3, a4, a5, a6, a7, a8⟩ := TB.bm
    have sz : (s1.heap.push o).objs.size = s1.heap.objs.size + 1 := Heap.size_push ..
    have kp : ∀ b u, b ≠ P → s1.heap.get? b = some u → h3.get? b = some u := fun b u nb e => hx b u nb (Heap.get?_push_of_some _ e)
    refine wpAny_builtinsFor (m := X.mg) (by rw [I1.ok.glob]; exact ((I1.mod.glob.keeps I1.bk).push o).extBut hx TB.gP) a1 a2 (kp _ _ a4 (I1.bk _ _ a5)) a6 a7 a8 ?_
    refine ⟨s1.heap.objs.size, s1.heap.objs.size :: fp, [s1.heap.objs.size], n, SA, St, fun _ => true, fun i y => y = .bool (pb i), rfl, W, ?_, ?_, (lim.push o).extBut hx neS, ?_, ?_, ?_⟩
    · refine (W X.A hr.hd).frame _ _ _ h0 fun b hb u e => hx b u ?_ e
      rcases List.mem_cons.mp hb with z | z
      · rw [z]; exact Nat.ne_of_gt lt
      · exact (hfp b z).1
    · intro b hb
      show b < h3.objs.size
      have big : s1.heap.objs.size < h3.objs.size := Nat.lt_of_lt_of_le (by rw [sz]; exact Nat.lt_succ_self _) hsz
      rcases List.mem_cons.mp hb with z | z
      · rw [z]; exact big
      · exact Nat.lt_trans (hfp b z).2 big
    · intro z
      exact Nat.ne_of_lt ltS (List.mem_singleton.mp z)
    · intro href keep
      have big : s1.heap.objs.size < h3.objs.size := Nat.lt_of_lt_of_le (by rw [sz]; exact Nat.lt_succ_self _) hsz
      refine ⟨fun A' E' i v s2 m2 _ _ _ _ _ => ?_, fun A' E' i v s2 m2 hA hv _ hn hm hk => test _ _ _ A' E' i v s2 m2 hA hv (fun b u nb e => ?_) hn hm⟩
      · rw [List.forIn_nil]
        exact wpAny_pure ⟨rfl, GxR.keeps_refl _⟩
      · have bl := Heap.lt_size e
        exact hk b (List.mem_range.mpr (Nat.lt_trans bl big)) (fun z => Nat.ne_of_lt bl (List.mem_singleton.mp z)) u (keep b u (kp b u nb e))
    · intro g h5 tk5 gs bare _ _ keep5 W5 st
      simp only [GxR.passing_true, List.length_range] at W5
      have nw : ∀ b u, s1.heap.get? b = some u → b ∉ h3.objs.size :: [s1.heap.objs.size] := fun b u e m => by
        have bl := Heap.lt_size e
        rcases List.mem_cons.mp m with z | z
        · have big : s1.heap.objs.size < h3.objs.size := Nat.lt_of_lt_of_le (by rw [sz]; exact Nat.lt_succ_self _) hsz
          rw [z] at bl
          exact Nat.lt_irrefl _ (Nat.lt_trans bl big)
        · rw [List.mem_singleton.mp z] at bl
          exact Nat.lt_irrefl _ bl
      refine hQ g _ ⟨_, _, _, _, _, W5.in4_1, st, fun j y sj Qj Ej hy q => ?_, fun s' mv => ?_⟩
      · obtain ⟨i, hi, rfl⟩ := hy
        obtain ⟨hj, ej⟩ := List.getElem?_eq_some_iff.mp hi
        rw [List.getElem_range] at ej
        subst ej
        rw [List.length_range] at hj
        have q2 : Qj (trB pb n j) sj := q
        unfold trB at q2
        rw [decide_eq_true hj, Bool.true_and] at q2
        exact wpAny_truthy_bool q2
      · have J := inv_ext (h' := s'.heap) (g' := s'.gens) (d' := s'.drawn) (t' := s'.toks) I1 hP (fun b u nb e => mv.heap b u (nw b u e) (keep5 b u (kp b u nb e))) ⟨qs, mv.heap P _ (nw P _ e1) (keep5 P _ hq), tri2⟩ (AllBare.movedS (I1.bare.push bare) mv)
        rw [GxR.sh_eta s1 s' mv.os] at J
        exact J
  refine ⟨lim.push o, ?_⟩
  cases hf : codeAmong gpos ps.toList with
  | none =>
    refine wpAny_genexprCodeX hcode (cd.code e2 tri) (cd.tab e2) hf fun c' h' tk hx hge hlt hco' _ htab' _ => ?_
    obtain ⟨_, _, _, _, _, _, _, _, _, _, _, _, _, _, _, _, _, _, _, tr2, _⟩ := hco'
    exact fin _ h' tk _ hx (Nat.le_trans hge (Nat.le_of_lt hlt)) htab'.2 tr2
  | some cv =>
    refine wpAny_genexprCode_hit hcode (cd.code e2 tri) hf ?_
    exact fin cv (s1.heap.push o) s1.toks ps (Heap.ExtBut.refl _ _) (Nat.le_refl _) e2 tri
end DL
namespace DL
open PySem PySem.Spec PyProof.Rows L2
variable {X : Cx} {P : Addr}
/-- each sign of a is among those of cs -/
def oneIn (cs : Str) (c : Nat) : Bool := !(Builtin.Str.occurrences cs ⟨#[c]⟩ 0 cs.length 1).isEmpty
def atB (a : Str) (f : Nat → Bool) (i : Nat) : Bool := match a.cps[i]? with
  | some c => f c
  | none => false
theorem test_in {s1 : Shared} {scope : Scope} {x y : Str} {a cs : Str} {t : Tok} {pins : List (Addr × Obj)} {σ : L2.St} {H1 : Hp} {p1 p2 p3 : Pos} (I : Inv X pins σ H1 s1) (gP : mainGlobals ≠ P) (hk : scope.kind = .function) (hl : scope.names.lookup x = some .local) (hg : scope.names.lookup y = some .globalImplicit) (hm : X.mg y = some (.str cs t))
    (hd : (x == ("__debug__" : Str)) = false := by decide) (hd2 : (y == ("__debug__" : Str)) = false := by decide) : TestOk X s1 P scope x (.Compare (.Name x p1) [.In] [.Name y p2] p3) (SignAt a) (atB a (oneIn cs)) := by
  intro L code bi A' E' i v s2 m2 _ hv old hn hx
  obtain ⟨c, u, hc, rfl⟩ := hv
  have hG : s2.heap.Ns mainGlobals X.mg := by
    obtain ⟨o, es, ep, e, r⟩ := I.mod.glob.keeps I.bk
    exact ⟨o, es, ep, old _ o gP e, r⟩
  refine wpAny_Compare1 ?_
  refine wpAny_Name (wpAny_loadName_local hk (show scope.names.lookup x = some .local from hl) hn hx ?_) hd
  refine Calls.Name_function_global hk hg (Calls.loadGlobal_global (by show s2.heap.Ns X.env.globals X.mg; rw [I.ok.glob]; exact hG) hm ?_) hd2
  refine PySem.P.in_str ⟨?_, GxR.keeps_refl _⟩
  unfold atB
  rw [hc]
  rfl
theorem all_at (a : Str) (f : Nat → Bool) : (List.range a.cps.size).all (trB (atB a f) a.cps.size) = a.cps.toList.all f := by
  rw [Bool.eq_iff_iff, List.all_eq_true, List.all_eq_true]
  constructor
  · intro h c m
    obtain ⟨i, hi, e⟩ := List.getElem_of_mem m
    have hi' : i < a.cps.size := by simpa using hi
    have := h i (List.mem_range.mpr hi')
    unfold trB atB at this
    rw [decide_eq_true hi', Bool.true_and, Array.getElem?_eq_getElem hi'] at this
    rw [← e]
    simpa using this
  · intro h i m
    have hi := List.mem_range.mp m
    unfold trB atB
    rw [decide_eq_true hi, Bool.true_and, Array.getElem?_eq_getElem hi]
    exact h _ (by simp)
/-- all(x in NAME for x in e), e a text -/
def tAllIn (P : Addr) (cs : Str) (te : TE) : TE := fun σ H Q => te σ H fun v H1 => ∃ a : Str, v = .str a ∧ H1 P = some (.ext (tabP P)) ∧ Q (.bl (a.cps.toList.all (oneIn cs))) H1
theorem pe_allIn {c : Addr} {iter : Expr} {x y cs : Str} {t : Tok} {px p pos gpos p1 p2 p3 : Pos} {scope : Scope} {te : TE} {k : Nat} (hr : Room k X.A) (hg : Gl X "all") (hm : X.mg "all" = none) (TB : GxR.TabB X.base X.mg c P) (hcode : X.env.code = .ref c) (S : GxR.GenS X.env scope x) (hi : PE X iter te)
    (hgy : scope.names.lookup y = some .globalImplicit) (hmy : X.mg y = some (.str cs t)) (hs : ∀ v, genFold iter X.env v = pure v)
    (he : starEach [.GeneratorExp (.Compare (.Name x p1) [.In] [.Name y p2] p3) [⟨.Name x px, iter, [], 0⟩] scope gpos] X.env = (false, eval (.GeneratorExp (.Compare (.Name x p1) [.In] [.Name y p2] p3) [⟨.Name x px, iter, [], 0⟩] scope gpos) X.env) :: starEach [] X.env := by rfl)
    (hd : (x == ("__debug__" : Str)) = false := by decide) (hd2 : (y == ("__debug__" : Str)) = false := by decide) :
    PE X (.Call (.Name "all" p) [.GeneratorExp (.Compare (.Name x p1) [.In] [.Name y p2] p3) [⟨.Name x px, iter, [], 0⟩] scope gpos] [] pos) (tAllIn P cs te) := by
  constructor
  intro pins s σ H Q I h
  refine wpAny_Call_Name_kw (ld_blt I hg hm (by decide +kernel : bootBuiltins "all" = some (.builtin "all")) ?_)
  refine PyProof.Rows.callWith_builtin1 ?_ he (by rfl)
  rw [he]
  show wpAny _ _ (spliced ((false, eval (.GeneratorExp (.Compare (.Name x p1) [.In] [.Name y p2] p3) [⟨.Name x px, iter, [], 0⟩] scope gpos) X.env) :: backTo pos (starEach [] X.env))) _ _ s
  refine Calls.spliced_cons (gen_make (σ := σ) (pins := pins) hr TB hcode S hs (thn (hi.run pins s σ H _ I h) fun xv s1 ⟨v, H1, I1, r1, q1⟩ => ?_))
  obtain ⟨a, rfl, hP, q1⟩ := q1
  obtain ⟨u, rfl⟩ := _root_.id r1
  refine ⟨H1, [], a.cps.size, SignAt a, atB a (oneIn cs), I1, hP, fun A E Q hq => wpAny_pyIter_str fun o St W h0 => hq o St W h0, fun b m => (nomatch m), test_in I1 TB.gP S.kind S.loc hgy hmy hd hd2, fun g s5 hG => ?_⟩
  obtain ⟨fp, wr, G, F, St, W, hst, htr, hI⟩ := hG
  refine Calls.spliced_nil ?_
  refine call_all_walkS (W.self 0 _ _ _ hst ⟨g, fp, wr, G, _, F, St, _, rfl, W, hst, htr, fun s' mv => ⟨.bl _, H1, hI s' mv, rfl, ?_⟩⟩)
  rw [all_at]
  exact q1
end DL
namespace EV
open PySem PySem.Spec PyProof.Rows L2 DL
variable [DL.TabC]
def tAllInT (cs : Str) (te : TE) : TE := fun σ H Q => te σ H fun v H1 => ∃ a : Str, v = .str a ∧ TabsE H1 ∧ Q (.bl (a.cps.toList.all (oneIn cs))) H1
theorem pe_allInT {X : Cx} {P : Addr} {cs : Str} {te : TE} {e : Expr} (hP : P ∈ TabC.tabs) (h : PE X e (tAllIn P cs te)) (mono : ∀ σ H Q Q', (∀ v H', Q v H' → Q' v H') → te σ H Q → te σ H Q') : PE X e (tAllInT cs te) :=
  ⟨fun pins s σ H Q I k => h.run pins s σ H Q I (mono _ _ _ _ (fun v H' ⟨a, e1, t, q⟩ => ⟨a, e1, t P hP, q⟩) k)⟩
theorem ed_allIn {g : Gm} {te : TE} {ρ ρ1 : Rho} {a cs : Str} (h : EvD g te ρ (.str a) ρ1) : EvD g (tAllInT cs te) ρ (.bool (a.cps.toList.all (oneIn cs))) ρ1 := fun c F H σ k s Q q => h c F H σ k s _ fun v F1 H1 s1 e1 x => by
  cases x
  exact ⟨a, rfl, s1.tabs, q _ F1 H1 s1 e1 (.bl _)⟩
/-- the module's tuple of words -/
structure TupC (K : PySem.W.Frag) (mg : Str → Option Value) (x : Str) (xs : List Str) : Prop where
  ex : ∃ (a : Addr) (o : Obj) (its : Array Value) (n : Nat), mg x = some (.ref a) ∧ K.lookup a = some o ∧ o.cls = .type "tuple" ∧ o.dict = none ∧ o.data = .seq its n ∧ its.size ≤ sizeLine ∧ Vals (xs.map V.str) its.toList
def tInC (neg : Bool) (xs : List Str) (te : TE) : TE := fun σ H Q => te σ H fun v H1 => ∃ s : Str, v = .str s ∧ Q (.bl (if neg then !decide (s ∈ xs) else decide (s ∈ xs))) H1
theorem inD_wds {s : Str} : ∀ {xs : List Str}, inD (.str s) (xs.map .str) = decide (s ∈ xs)
  | [] => rfl
  | x :: xs => by
    have e : inD (.str s) ((x :: xs).map .str) = (PyData.eqv (.str x) (.str s) || inD (.str s) (xs.map .str)) := rfl
    rw [e, inD_wds]
    have e2 : PyData.eqv (.str x) (.str s) = decide (x = s) := by
      show (x == s) = _
      rw [Bool.eq_iff_iff, beq_iff_eq, decide_eq_true_iff]
    rw [e2, Bool.eq_iff_iff, Bool.or_eq_true, decide_eq_true_iff, decide_eq_true_iff, decide_eq_true_iff, List.mem_cons]
    exact ⟨fun z => z.elim (fun q => .inl q.symm) .inr, fun z => z.elim (fun q => .inl q.symm) .inr⟩
theorem inC_go {K : PySem.W.Frag} {mg : Str → Option Value} {x : Str} {xs : List Str} {neg : Bool} {a : Addr} {o : Obj} {its : Array Value} {n : Nat} (h2 : K.lookup a = some o) (h3 : o.cls = .type "tuple") (h4 : o.dict = none) (h5 : o.data = .seq its n) (h6 : its.size ≤ sizeLine) (h7 : Vals (xs.map V.str) its.toList)
    (H : Hp) (Q : VK) (v : V) (z : ∃ s : Str, v = .str s ∧ Q (.bl (if neg then !decide (s ∈ xs) else decide (s ∈ xs))) H) : (if neg then uNotIn K else uIn K) v (.ref a) H Q := by
  obtain ⟨s, hv, q⟩ := z
  subst hv
  have k := inT (K := K) (neg := neg) (d := .str s) (ds := xs.map .str) rfl (by simp [List.all_map, flatD]) H H (.str s) (.ref a) Q (Same.refl H) (.inl (.str s)) (.inl (.tup (.inr ⟨o, its, n, h2, h3, h4, h5, h6, h7⟩) (dp_strL xs))) fun v F' H' r => by
    rw [inD_wds] at r
    cases r with
    | «at» r =>
      cases r
      exact q
  cases neg with
  | true => exact .inl k
  | false => exact .inl k
section
variable {X : Cx} {x : Str} {xs : List Str} {e : Expr} {te : TE} {p pos : Pos}
theorem pt_inC0 (hu : X.A.units + 65 < cLine) (c : TupC X.K X.mg x xs) (hg : Gl X x) (he : PE X e te) (mono : ∀ σ H Q Q', (∀ v H', Q v H' → Q' v H') → te σ H Q → te σ H Q') (hd : (x == ("__debug__" : Str)) = false := by decide) : PT X (.Compare e [.In] [.Name x p] pos) (tTest (tInC false xs te)) := by
  obtain ⟨a, o, its, n, h1, h2, h3, h4, h5, h6, h7⟩ := c.ex
  have k := pt_cmpR (opr_in hu) he (pe_glob (X := X) (pos := p) hg h1 (v := .ref a) rfl hd) (pos := pos) rfl
  exact ⟨fun pins s σ H Q I h => k.run pins s σ H Q I (mono _ _ _ _ (fun v H' z => inC_go (mg := X.mg) (x := x) (neg := false) h2 h3 h4 h5 h6 h7 H' _ v z) h)⟩
end
theorem ed_inC {g : Gm} {te : TE} {ρ ρ1 : Rho} {a : Str} {xs : List Str} {neg : Bool} (h : EvD g te ρ (.str a) ρ1) : EvD g (tInC neg xs te) ρ (.bool (if neg then !decide (a ∈ xs) else decide (a ∈ xs))) ρ1 := fun c F H σ k s Q q => h c F H σ k s _ fun v F1 H1 s1 e1 x => by
  cases x
  exact ⟨a, rfl, q _ F1 H1 s1 e1 (.bl _)⟩
def rIsBl : Bool → R2
  | false => fun x y H Q => ∃ a b, x = .bl a ∧ y = .bl b ∧ Q (.bl (decide (a = b))) H
  | true => fun x y H Q => ∃ a b, x = .bl a ∧ y = .bl b ∧ Q (.bl (!decide (a = b))) H
theorem r2_isBl {K : PySem.W.Frag} {n a b : Bool} : R2D K (rIsBl n) (.bool a) (.bool b) (.bool (if n then !decide (a = b) else decide (a = b))) := fun F H x y Q f p r q => by
  have e1 : x = .bl a := by
    rcases p with p | ⟨_, _, _, _, z, _⟩
    · cases p; rfl
    · cases z
  have e2 : y = .bl b := by
    rcases r with p | ⟨_, _, _, _, z, _⟩
    · cases p; rfl
    · cases z
  cases n with
  | true => exact ⟨a, b, e1, e2, q _ F H (.at (.bl _))⟩
  | false => exact ⟨a, b, e1, e2, q _ F H (.at (.bl _))⟩
end EV
namespace EV
open PySem PySem.Spec PyProof.Rows L2 DL
variable [DL.TabC]
/-- sorted(set(t)) -/
def tSrs (K : PySem.W.Frag) (te : TE) : TE := fun σ H Q => ∀ w : World, tCB (rSortedSet w) (tCons (tCB (rSetIT K w) (tCons te tNil)) tNil) σ H Q
def insD : List D → Option (List Int)
  | [] => some []
  | .int i :: r => (insD r).map (i :: ·)
  | _ => none
theorem insD_eq : ∀ {ds : List D} {ns : List Int}, insD ds = some ns → ds = ns.map .int
  | [], ns, h => by cases h; rfl
  | d :: r, ns, h => by
    cases d with
    | int i =>
      unfold insD at h
      obtain ⟨ms, hm, rfl⟩ := Option.map_eq_some_iff.mp h
      rw [insD_eq hm]
      rfl
    | _ => cases h
/-- the ascending list of them, each once, when that is what it is -/
def srsD (ds : List D) : Option (List Int) := (insD ds).bind fun ns => if ns.length < 64 ∧ (asc ns).Pairwise (· < ·) ∧ (∀ k ∈ asc ns, k ∈ ns) ∧ (∀ k ∈ ns, k ∈ asc ns) then some (asc ns) else none
/-- a key told without a step -/
inductive Kx where
  | v (j : Nat)
  | c (i : Int)
  | m (i : Int)
mutual
inductive Ex where
  | int (i : Int)
  | bl (b : Bool)
  | str (s : Str)
  | non
  | var (i : Nat)
  | op (o : Op) (a b : Ex)
  | neg (a : Ex)
  | nt (a : Ex)
  | an (a b : Ex)
  | or (a b : Ex)
  | ch (o o' : Op) (a b c : Ex)
  | isN (a : Ex)
  | notN (a : Ex)
  | ife (t : Tx) (a b : Ex)
  | tup (as : Exs)
  | lst (as : Exs)
  | sl (a : Ex) (lo hi : Px)
  | cb (f : Bf) (as : Exs)
  | isa (a : Ex) (T : String)
  | call (f : List D → Option RetV) (as : Exs)
  | callS (f : List D → List D → Option (RetV × List D)) (i : Nat) (as : Exs)
  | lc (it : Ix) (j : Nat) (t : Tx) (e : Ex)
  | lc2 (it : Ix) (i j : Nat) (t : Tx) (e : Ex)
  | callL (f : List D → List D → Option (RetV × List D)) (i j : Nat)
  | lrg (a : Ex)
  | trg (a : Ex)
  | pop (i : Nat) (a : Ex)
  | idxL (a b : Ex)
  | idxT (a b : Ex)
  | dget (i : Nat) (a : Ex)
  | din (a : Ex) (i : Nat)
  | dnin (a : Ex) (i : Nat)
  | dset (i : Nat) (a b : Ex)
  | dsp (k : Kx) (n : Int)
  | callX (f : List D → Option RetX) (as : Exs)
  | lget (i : Nat) (a : Ex)
  | revT (a : Ex)
  | srs (a : Ex)
  | revL (a : Ex)
  | sw (e : Bool) (a b : Ex)
  | dget2 (i : Nat) (a b : Ex)
  | dinD (a b : Ex)
  | dninD (a b : Ex)
  | dgetD (a b : Ex)
  | fnv (a : Addr)
  | callF (i : Nat) (tbl : List (Addr × (List D → Option RetV))) (as : Exs)
  | callE (e : Ex) (tbl : List (Addr × (List D → Option RetV))) (as : Exs)
  | isaT (a : Ex) (Ts : List String)
  | dspb (k : Kx) (b : Bool)
  | allIn (cs : Str) (a : Ex)
  | inC (n : Bool) (xs : List Str) (a : Ex)
  | isB (n b : Bool) (a : Ex)
inductive Exs where
  | nil
  | cons (a : Ex) (as : Exs)
inductive Tx where
  | te (a : Ex)
  | tb (a : Ex)
  | nt (t : Tx)
  | an (t u : Tx)
  | or (t u : Tx)
  | yes
  | lend (t : Tx)
  | tl (a : Ex)
inductive Px where
  | no
  | at (a : Ex)
inductive Ix where
  | rng1 (a : Ex)
  | rng2 (a b : Ex)
  | rng3 (a b c : Ex)
  | u (a : Ex)
  | en (a : Ex)
  | ky (i : Nat)
  | enl (a : Ex)
  | ukd (a : Ex)
end
mutual
inductive Tg where
  | nm (i : Nat)
  | tup (n : Nat) (ts : Tgs)
inductive Tgs where
  | nil
  | cons (t : Tg) (ts : Tgs)
end
/-- an expression that may let an exception out -/
inductive RE where
  | x (f : List D → Option RetX) (as : Exs)
  | call (f : List D → Option RetV) (a : RE)
  | lst (a : RE)
  | e (e : Ex)
/-- what a try tries -/
inductive TB where
  | ret (e : RE)
  | iff (t : Tx) (a b : TB)
  | sif (t : Tx) (a b : TB)
  | set (j : Nat) (e : RE)
  | dr (e : RE)
  | sq (a b : TB)
  | nx
inductive St where
  | set (i : Nat) (e : Ex)
  | asg (e : Ex) (t : Tg)
  | seti (i : Nat) (a e : Ex)
  | app (i : Nat) (e : Ex)
  | newD (i : Nat)
  | dput (i : Nat) (a e : Ex)
  | drop (e : Ex)
  | ret (e : Ex)
  | retN
  | iff (t : Tx) (a b : St)
  | for (it : Ix) (t : Tg) (b : St)
  | wh (n : Nat) (t : Tx) (b : St)
  | brk
  | cont
  | nx
  | seq (a b : St)
  | fz (i : Nat) (s : St)
  | fzD (i : Nat) (s : St)
  | retD (i : Nat)
  | lk (i : Nat) (s : St)
  | mv (i j : Nat)
  | never
  | tryK (b : TB) (i : Nat) (S : Addr) (kd : List (Addr × Str)) (tbl : List (Addr × List Str))
  | aug (i : Nat) (e : Ex)
  | raise (C : Addr)
  | dropX (f : List D → Option RetX) (as : Exs)
  | tryC (f : List D → Option RetX) (as : Exs) (C : Addr) (i : Nat) (S : Addr) (cs : List Addr)
  | tryN (b : TB) (i : Nat) (S : Addr) (cs : List Addr) (hs : List (Addr × Hx))
def denK : Kx → TE
  | .v j => tVar j
  | .c i => tC (.int i)
  | .m i => tUn (rU fun i => .int (-i)) (tC (.int i))
/-- a[lo:hi] of a tuple or a list -/
def rSlU (K : PySem.W.Frag) : V → Option Int → Option Int → Hp → VK → Prop := fun x lo hi H Q => rSlX K x lo hi H Q ∨ rSlL K x lo hi H Q
theorem sl_u {X : Cx} : SlR X (rSlU X.K) := SlR.or sl_tupX sl_list
mutual
def denE (K : PySem.W.Frag) (E : XK) : Ex → TE
  | .int i => tC (.int i)
  | .bl b => tC (.bl b)
  | .str s => tC (.str s)
  | .non => tC .non
  | .var i => tVar i
  | .op o a b => tOp (opK K o) (denE K E a) (denE K E b)
  | .neg a => tUn (rU fun i => .int (-i)) (denE K E a)
  | .nt a => tNotV (denE K E a)
  | .an a b => tAndV (denE K E a) (denE K E b)
  | .or a b => tOrV (denE K E a) (denE K E b)
  | .ch o o' a b c => tChain (opK K o) (opK K o') (denE K E a) (denE K E b) (denE K E c)
  | .isN a => tIsN (denE K E a)
  | .notN a => tNotN (denE K E a)
  | .ife t a b => tIf (denT K E t) (denE K E a) (denE K E b)
  | .tup as => tTupX (denA K E as)
  | .lst as => tLst (denA K E as)
  | .sl a lo hi => tSl (rSlU K) (denE K E a) (denP K E lo) (denP K E hi)
  | .cb f as => tCB (bfK K f) (denA K E as)
  | .isa a T => tCB (rIsaB K) (tCons (denE K E a) (tCons (tC (.ty T)) tNil))
  | .call f as => tCall (spD (fun ds r => f ds = some r) K) [] E0 (denA K E as)
  | .callS f i as => tCall (spS (fun st ds r st' => f st ds = some (r, st')) K) [] E0 (tCons (tVar i) (denA K E as))
  | .lc it j t e => tLc (denI K E it) (gName j) (denT K E t) (denE K E e) [j]
  | .lc2 it i j t e => tLc (denI K E it) (gTup K 2 (gCons (gName i) (gCons (gName j) gNil))) (denT K E t) (denE K E e) [i, j]
  | .callL f i j => tCall (spS (fun st ds r st' => f st ds = some (r, st')) K) [] E0 (tCons (tVar i) (tCons (tVar j) tNil))
  | .lrg a => tLstRg (tRg1 (denE K E a))
  | .trg a => tTupRgX (tRg1 (denE K E a))
  | .pop i a => tBM K "list" rPopAt (tVar i) (tCons (denE K E a) tNil)
  | .idxL a b => tBM K "list" (rIndexD K) (denE K E a) (tCons (denE K E b) tNil)
  | .idxT a b => tBMX K (rTIx K) (denE K E a) (tCons (denE K E b) tNil)
  | .dget i a => tDGet (tVar i) (denE K E a)
  | .dsp k n => tDisp [(denK k, tC (.int n))]
  | .dspb k n => tDisp [(denK k, tC (.bl n))]
  | .revT a => tRevT K (denE K E a)
  | .srs a => tSrs K (denE K E a)
  | .revL a => tRevL K (denE K E a)
  | .sw e a b => tBM K "str" (rSw e) (denE K E a) (tCons (denE K E b) tNil)
  | .lget i a => tDGet (tVar i) (denE K E a)
  | .dget2 i a b => tDGet2 (tVar i) (denE K E a) (denE K E b)
  | .callX f as => tCall (spX (fun ds r => f ds = some r) K) [] E (denA K E as)
  | .din a i => tDIn (denE K E a) (tVar i)
  | .dnin a i => tDNotIn (denE K E a) (tVar i)
  | .dset i a b => tDSetd (tVar i) (denE K E a) (denE K E b)
  | .dinD a b => tDIn (denE K E a) (denE K E b)
  | .dninD a b => tDNotIn (denE K E a) (denE K E b)
  | .dgetD a b => tDGet (denE K E a) (denE K E b)
  | .fnv a => tC (.ref a)
  | .callF i tbl as => tCallF K i tbl (denA K E as)
  | .callE e tbl as => tCallEF K (denE K E e) tbl (denA K E as)
  | .isaT a Ts => tCB (rIsiT K) (tCons (denE K E a) (tCons (tTup (tysA Ts)) tNil))
  | .allIn cs a => tAllInT cs (denE K E a)
  | .inC n xs a => tInC n xs (denE K E a)
  | .isB n b a => tOp (rIsBl n) (denE K E a) (tC (.bl b))
def denA (K : PySem.W.Frag) (E : XK) : Exs → TA
  | .nil => tNil
  | .cons a as => tCons (denE K E a) (denA K E as)
def denT (K : PySem.W.Frag) (E : XK) : Tx → TT
  | .te a => tTest (denE K E a)
  | .tb a => tB (denE K E a)
  | .nt t => tNot (denT K E t)
  | .an t u => tAnd (denT K E t) (denT K E u)
  | .or t u => tOr (denT K E t) (denT K E u)
  | .yes => tYes
  | .lend t => denT K E t
  | .tl a => fun σ H Q => denE K E a σ H fun x H' => ∃ k, TruV K x H' k ∧ Q k H'
def denP (K : PySem.W.Frag) (E : XK) : Px → TO
  | .no => tNoPart
  | .at a => tPart (denE K E a)
def denI (K : PySem.W.Frag) (E : XK) : Ix → TI
  | .rng1 a => iRng1 (tCons (denE K E a) tNil)
  | .rng2 a b => iRng2 (tCons (denE K E a) (tCons (denE K E b) tNil))
  | .rng3 a b c => iRng3 (tCons (denE K E a) (tCons (denE K E b) (tCons (denE K E c) tNil)))
  | .u a => uIter K (denE K E a)
  | .en a => iEnT K (tCons (denE K E a) tNil)
  | .ky i => iKeys (tVar i)
  | .enl a => iEnL K (tCons (denE K E a) tNil)
  | .ukd a => iKeys (tNewL (denE K E a))
end
mutual
def denG (K : PySem.W.Frag) : Tg → TG
  | .nm i => gName i
  | .tup n ts => gTup K n (denGs K ts)
def denGs (K : PySem.W.Frag) : Tgs → TGs
  | .nil => gNil
  | .cons t ts => gCons (denG K t) (denGs K ts)
end
def denR (K : PySem.W.Frag) (E : XK) (ES : L2.St → XK) : RE → TE
  | .x f as => tCallS (spX (fun ds r => f ds = some r) K) ES (denA K E as)
  | .call f a => tCall (spD (fun ds r => f ds = some r) K) [] E0 (tCons (denR K E ES a) tNil)
  | .lst a => tLst (tCons (denR K E ES a) tNil)
  | .e e => denE K E e
def denB (K : PySem.W.Frag) (E : XK) (ES : L2.St → XK) : TB → TS
  | .ret e => tRet (denR K E ES e)
  | .iff t a b => tIfS (denT K E t) (denB K E ES a) (denB K E ES b)
  | .sif t a b => tSeq (tIfS (denT K E t) (denB K E ES a) tNext) (denB K E ES b)
  | .set j e => tAsg (denR K E ES e) (gName j)
  | .dr e => tDrop (denR K E ES e)
  | .sq a b => tSeq (denB K E ES a) (denB K E ES b)
  | .nx => tNext
/-- what a clause gives back -/
def denHe (K : PySem.W.Frag) (i : Nat) (a : Addr) (cls : Value) (d : Option Addr) : Hx → TE
  | .tst t => denZ K i a cls d t
  | .pick x y t => tOp (opK K .ix) (tLst (tCons (tC (.str x)) (tCons (tC (.str y)) tNil))) (tCB (bfK K .int) (tCons (denZ K i a cls d t) tNil))
  | .pair x t => tTupX (tCons (tC (.str x)) (tCons (denZ K i a cls d t) tNil))
  | .non => tC .non
  | .bl b => tC (.bl b)
  | .int n => tC (.int n)
  | .str x => tC (.str x)
def denHx (K : PySem.W.Frag) (i : Nat) (h : Hx) : Su := fun a cls d => tRet (denHe K i a cls d h)
def denS (K : PySem.W.Frag) (E : XK) : St → TS
  | .set i e => tAsg (denE K E e) (gName i)
  | .asg e t => tAsg (denE K E e) (denG K t)
  | .seti i a e => tAsg (denE K E e) (gSub (tVar i) (denE K E a) rSetL)
  | .app i e => tDrop (tBM K "list" rAppend (tVar i) (tCons (denE K E e) tNil))
  | .newD i => tAsg tDNewK (gName i)
  | .dput i a e => sDPut (tVar i) (denE K E a) (denE K E e)
  | .drop e => tDrop (denE K E e)
  | .ret e => tRet (denE K E e)
  | .retN => tRetN
  | .iff t a b => tIfS (denT K E t) (denS K E a) (denS K E b)
  | .for it t b => tFor (denI K E it) (denG K t) (denS K E b)
  | .wh _ t b => tWhile (denT K E t) (denS K E b)
  | .brk => tBreak
  | .cont => tCont
  | .nx => tNext
  | .seq a b => tSeq (denS K E a) (denS K E b)
  | .fz _ s => denS K E s
  | .fzD _ s => denS K E s
  | .retD i => tRet (tVar i)
  | .lk _ s => tLock (denS K E s)
  | .never => tNever
  | .tryK b i S kd _ => fun Dn σ H => denB K E (WE (wAs K (.ref S) i (tKind K kd i) (fun _ _ _ _ => False) Dn)) b Dn σ H
  | .mv i j => tAsg (tVar j) (gName i)
  | .aug i e => tAug i (denE K E e) (ipI fun i j => i + j)
  | .raise C => tRaiseO C E
  | .dropX f as => tDrop (tCall (spX (fun ds r => f ds = some r) K) [] E (denA K E as))
  | .tryC f as C i S cs => tTryCall (fun ds r => f ds = some r) K (.ref C) i (tSuite K i S cs) (denA K E as)
  | .tryN b i _ _ hs => fun Dn σ H => denB K E (WE (wNmd K i (fun _ _ _ _ => False) Dn (hs.map fun h => (.ref h.1, denHx K i h.2)))) b Dn σ H
/-- what an expression's value is: data, an own list, a new list, a new thing of one's own -/
inductive Vl where
  | d (x : D)
  | o (i : Nat)
  | n (ds : List D)
  | w (w : Ow)
def rzV : Rz → Vl
  | .d z => .d z
  | .n zs => .n zs
def rvV : RetV → Vl
  | .dat d => .d d
  | .new w => .w w
def toA : Vl → Option DL.Arg
  | .d x => some (.d x)
  | .o i => some (.o i)
  | .n ds => some (.d (.list ds))
  | .w (.lst ds) => some (.d (.list ds))
  | .w (.lls dss) => some (.d (.list (dss.map .list)))
  | .w (.dK kvs) => some (.d (.dict (kvE kvs)))
  | .w (.dF _) => none
def toD : Vl → Option D
  | .d x => some x
  | .o _ => none
  | .n ds => some (.list ds)
  | .w (.lst ds) => some (.list ds)
  | .w (.lls dss) => some (.list (dss.map .list))
  | .w (.dK kvs) => some (.dict (kvE kvs))
  | .w (.dF _) => none
def ownL (ρ : Rho) (i : Nat) : Option (List D) := match ρ[i]? with
  | some (.own (.lst ds)) => some ds
  | _ => none
def ownD (ρ : Rho) (i : Nat) : Option (List (Key × D)) := match ρ[i]? with
  | some (.own (.dK ds)) => some ds
  | _ => none
def ownF (ρ : Rho) (i : Nat) : Option (List (Key × D)) := match ρ[i]? with
  | some (.own (.dF ds)) => some ds
  | _ => none
def dkV : Vl → Option (List (Key × D))
  | .w (.dK kvs) => some kvs
  | _ => none
def datV (ρ : Rho) (i : Nat) : Option D := match ρ[i]? with
  | some (.dat d) => some d
  | _ => none
def noF (ρ : Rho) : Bool := ρ.all fun e => match e with
  | .own (.dF _) => false
  | _ => true
def varV (ρ : Rho) (i : Nat) : Option Vl := match ρ[i]? with
  | some (.dat d) => some (.d d)
  | some (.own (.lst _)) => some (.o i)
  | _ => none
def asI : D → Option Int
  | .int i => some i
  | _ => none
def asB : D → Option Bool
  | .bool i => some i
  | _ => none
def asRz : Rz → Option D
  | .d z => some z
  | .n _ => none
def lcGo (f : D → Rho → Option (Option D × Rho)) : List D → Rho → Option (List D × Rho)
  | [], ρ => some ([], ρ)
  | x :: xs, ρ => (f x ρ).bind fun p => (lcGo f xs p.2).bind fun q => some ((match p.1 with | some d => d :: q.1 | none => q.1), q.2)
def two : D → Option (D × D)
  | .tuple [a, b] => some (a, b)
  | _ => none
def idxOf (d : D) : List D → Option Nat
  | [] => none
  | z :: ds => if PyData.eqv z d then some 0 else (idxOf d ds).map (· + 1)
def idxS (x : Str) : List Str → Option Nat
  | [] => none
  | z :: ds => if z = x then some 0 else (idxS x ds).map (· + 1)
def rgD (a : Int) (n : Nat) : List D := (List.range n).map fun i => .int (a + (i : Nat))
def enD (ds : List D) : List D := (List.range ds.length).map (pairD ds)
def rdD (a : Int) (n : Nat) : List D := (List.range n).map fun i => .int (a - (i : Nat))
def evK (ρ : Rho) : Kx → Option D
  | .v j => match ρ[j]? with
    | some (.dat d) => some d
    | _ => none
  | .c i => some (.int i)
  | .m i => some (.int (-i))
def sl1 : D → Option Int → Option Int → Option Rz
  | .tuple ds, lo, hi => some (.d (.tuple (cutD ds lo hi)))
  | .list ds, lo, hi => some (.n (cutD ds lo hi))
  | _, _, _ => none
mutual
def evE (ps : List Nat) : Ex → Rho → Option (Vl × Rho)
  | .int i, ρ => some (.d (.int i), ρ)
  | .bl b, ρ => some (.d (.bool b), ρ)
  | .str s, ρ => some (.d (.str s), ρ)
  | .non, ρ => some (.d .none, ρ)
  | .var i, ρ => (varV ρ i).map fun v => (v, ρ)
  | .op o a b, ρ => (evE ps a ρ).bind fun p => (toA p.1).bind fun A => (evE ps b p.2).bind fun q => (toA q.1).bind fun B =>
      (A.den q.2).bind fun d => (B.den q.2).bind fun e => (op2 o d e).map fun z => (rzV z, q.2)
  | .neg a, ρ => (evE ps a ρ).bind fun p => (toA p.1).bind fun A => (A.den p.2).bind fun d => (asI d).map fun i => (.d (.int (-i)), p.2)
  | .nt a, ρ => (evE ps a ρ).bind fun p => (toD p.1).bind fun d => (asB d).map fun b => (.d (.bool (!b)), p.2)
  | .an a b, ρ => (evE ps a ρ).bind fun p => (toD p.1).bind fun d => (asB d).bind fun x =>
      if x then (evE ps b p.2).bind fun q => (toD q.1).bind fun e => (asB e).map fun y => (.d (.bool y), q.2) else some (.d (.bool false), p.2)
  | .or a b, ρ => (evE ps a ρ).bind fun p => (toD p.1).bind fun d => (asB d).bind fun x =>
      if x then some (.d (.bool true), p.2) else (evE ps b p.2).bind fun q => (toD q.1).bind fun e => (asB e).map fun y => (.d (.bool y), q.2)
  | .ch o o' a b c, ρ => (evE ps a ρ).bind fun p => (toA p.1).bind fun A => (evE ps b p.2).bind fun q => (toA q.1).bind fun B =>
      (A.den q.2).bind fun d => (B.den q.2).bind fun e => (op2 o d e).bind fun z => (asRz z).bind fun z => (asB z).bind fun x =>
      if x then (evE ps c q.2).bind fun r => (toA r.1).bind fun C => (B.den r.2).bind fun e => (C.den r.2).bind fun f => (op2 o' e f).bind fun z => (asRz z).bind fun z => (asB z).map fun y => (.d (.bool y), r.2)
      else some (.d (.bool false), q.2)
  | .isN a, ρ => (evE ps a ρ).bind fun p => (toD p.1).map fun d => (.d (.bool (!notNone d)), p.2)
  | .notN a, ρ => (evE ps a ρ).bind fun p => (toD p.1).map fun d => (.d (.bool (notNone d)), p.2)
  | .ife t a b, ρ => (evT ps t ρ).bind fun p => if p.1 then evE ps a p.2 else evE ps b p.2
  | .tup as, ρ => (evA ps as ρ).bind fun p => (datas p.1).bind fun ds => if ds.length ≤ sizeLine then some (.d (.tuple ds), p.2) else none
  | .lst as, ρ => (evA ps as ρ).bind fun p => (datas p.1).bind fun ds => if ds.length ≤ sizeLine then some (.n ds, p.2) else none
  | .sl a lo hi, ρ => (evE ps a ρ).bind fun p => (toA p.1).bind fun A => (evP ps lo p.2).bind fun l => (evP ps hi l.2).bind fun h =>
      (A.den h.2).bind fun d => (sl1 d l.1 h.1).map fun z => (rzV z, h.2)
  | .cb f as, ρ => (evA ps as ρ).bind fun p => (dens p.2 p.1).bind fun ds => (cb1 f ds).map fun z => (rzV z, p.2)
  | .isa a T, ρ => (evE ps a ρ).bind fun p => (toA p.1).bind fun A => (A.den p.2).bind fun d => (kitN d T).map fun b => (.d (.bool b), p.2)
  | .call f as, ρ => (evA ps as ρ).bind fun p => (datas p.1).bind fun ds => (f ds).map fun r => (rvV r, p.2)
  | .callS f i as, ρ => (ownL ρ i).bind fun _ => (evA ps as ρ).bind fun p => (datas p.1).bind fun ds => (ownL p.2 i).bind fun st => (f st ds).map fun r => (rvV r.1, p.2.set i (.own (.lst r.2)))
  | .lc it j t e, ρ => (evI ps it ρ).bind fun p => if p.1.length < sizeLine ∧ j ∉ ps then
      (lcGo (fun x ρ' => if j < ρ'.length then (evT ps t (ρ'.set j (.dat x))).bind fun q => if q.1 then (evE ps e q.2).bind fun r => (toD r.1).map fun d => (some d, r.2.set j .no) else some (none, q.2.set j .no) else none) p.1 (p.2.set j .no)).map fun q => (.n q.1, q.2)
      else none
  | .lc2 it i j t e, ρ => (evI ps it ρ).bind fun p => if p.1.length < sizeLine ∧ (i ∉ ps ∧ j ∉ ps) ∧ i ≠ j then
      (lcGo (fun x ρ' => if i < ρ'.length ∧ j < ρ'.length then (two x).bind fun y => (evT ps t ((ρ'.set i (.dat y.1)).set j (.dat y.2))).bind fun q => if q.1 then (evE ps e q.2).bind fun r => (toD r.1).map fun d => (some d, (r.2.set i .no).set j .no) else some (none, (q.2.set i .no).set j .no) else none) p.1 ((p.2.set i .no).set j .no)).map fun q => (.n q.1, q.2)
      else none
  | .callL f i j, ρ => (ownL ρ i).bind fun st => (ownL ρ j).bind fun ds => (f st [.list ds]).bind fun r => match r.1 with
      | .dat d => if i ≠ j ∧ ds.all isS = true ∧ r.2.all apartS = true ∧ atomD d = true then some (.d d, ρ.set i (.own (.lst r.2))) else none
      | _ => none
  | .lrg a, ρ => (evE ps a ρ).bind fun p => (toD p.1).bind fun d => (asI d).bind fun n => if 0 ≤ n ∧ n ≤ 1000000 then some (.n (rgD 0 n.toNat), p.2) else none
  | .trg a, ρ => (evE ps a ρ).bind fun p => (toD p.1).bind fun d => (asI d).bind fun n => if 0 ≤ n ∧ n ≤ 1000000 then some (.d (.tuple (rgD 0 n.toNat)), p.2) else none
  | .pop i a, ρ => (ownL ρ i).bind fun _ => (evE ps a ρ).bind fun p => (toD p.1).bind fun d => (asI d).bind fun n => (ownL p.2 i).bind fun ds =>
      if -(2 ^ 63) ≤ n ∧ n < 2 ^ 63 then (ixN ds.length n).bind fun j => (ds[j]?).map fun d => (.d d, p.2.set i (.own (.lst (ds.eraseIdx j)))) else none
  | .idxL a b, ρ => (evE ps a ρ).bind fun p => (toD p.1).bind fun d => (evE ps b p.2).bind fun q => (toA q.1).bind fun B => (B.den q.2).bind fun e =>
      match d with
      | .list ds => if SeqAt.shaped (.list ds) = true ∧ SeqAt.shaped e = true then (idxOf e ds).map fun j => (.d (.int (j : Nat)), q.2) else none
      | _ => none
  | .idxT a b, ρ => (evE ps a ρ).bind fun p => (toD p.1).bind fun d => (evE ps b p.2).bind fun q => (toA q.1).bind fun B => (B.den q.2).bind fun e =>
      match d, e with
      | .tuple ds, .str x => (strsOf ds).bind fun xs => (idxS x xs).map fun j => (.d (.int (j : Nat)), q.2)
      | _, _ => none
  | .dget i a, ρ => (ownD ρ i).bind fun _ => (evE ps a ρ).bind fun p => (toD p.1).bind fun d => (keyD d).bind fun k => (ownD p.2 i).bind fun kvs => (valD kvs k).map fun d => (.d d, p.2)
  | .din a i, ρ => (evE ps a ρ).bind fun p => (toD p.1).bind fun d => (keyD d).bind fun k => (ownD p.2 i).map fun kvs => (.d (.bool (valD kvs k).isSome), p.2)
  | .dnin a i, ρ => (evE ps a ρ).bind fun p => (toD p.1).bind fun d => (keyD d).bind fun k => (ownD p.2 i).map fun kvs => (.d (.bool (!(valD kvs k).isSome)), p.2)
  | .dset i a b, ρ => (ownD ρ i).bind fun _ => (evE ps a ρ).bind fun p => (toD p.1).bind fun d => (keyD d).bind fun k => (evE ps b p.2).bind fun q => (toD q.1).bind fun e => (ownD q.2 i).bind fun kvs =>
      if kvs.length < sizeLine then some (.d ((valD kvs k).getD e), q.2.set i (.own (.dK (if (valD kvs k).isSome then kvs else putD kvs k e)))) else none
  | .dinD a b, ρ => (evE ps a ρ).bind fun p => (toD p.1).bind fun d => (keyD d).bind fun k => (evE ps b p.2).bind fun q => (toD q.1).bind fun e => (dictOf e).map fun kvs => (.d (.bool (valD kvs k).isSome), q.2)
  | .dninD a b, ρ => (evE ps a ρ).bind fun p => (toD p.1).bind fun d => (keyD d).bind fun k => (evE ps b p.2).bind fun q => (toD q.1).bind fun e => (dictOf e).map fun kvs => (.d (.bool (!(valD kvs k).isSome)), q.2)
  | .dgetD a b, ρ => (evE ps a ρ).bind fun p => (toD p.1).bind fun e => (dictOf e).bind fun kvs => (evE ps b p.2).bind fun q => (toD q.1).bind fun d => (keyD d).bind fun k => (valD kvs k).map fun z => (.d z, q.2)
  | .fnv a, ρ => some (.d (fnD a), ρ)
  | .callF i tbl as, ρ => (datV ρ i).bind fun d => (asFn d).bind fun a => (tblF tbl a).bind fun f => (evA ps as ρ).bind fun p => (datas p.1).bind fun ds => (f ds).map fun r => (rvV r, p.2)
  | .callE e tbl as, ρ => (evE ps e ρ).bind fun q => (toD q.1).bind fun d => (asFn d).bind fun a => (tblF tbl a).bind fun f => (evA ps as q.2).bind fun p => (datas p.1).bind fun ds => (f ds).map fun r => (rvV r, p.2)
  | .isaT a Ts, ρ => if Ts.length ≤ 10 then (evE ps a ρ).bind fun p => (toA p.1).bind fun A => (A.den p.2).bind fun d => (kitM d Ts).map fun b => (.d (.bool b), p.2) else none
  | .allIn cs a, ρ => (evE ps a ρ).bind fun p => (toD p.1).bind fun d => match d with
      | .str x => some (.d (.bool (x.cps.toList.all (oneIn cs))), p.2)
      | _ => none
  | .inC n xs a, ρ => (evE ps a ρ).bind fun p => (toD p.1).bind fun d => match d with
      | .str x => some (.d (.bool (if n then !decide (x ∈ xs) else decide (x ∈ xs))), p.2)
      | _ => none
  | .isB n b a, ρ => (evE ps a ρ).bind fun p => (toD p.1).bind fun d => (asB d).map fun x => (.d (.bool (if n then !decide (x = b) else decide (x = b))), p.2)
  | .dspb k n, ρ => (evK ρ k).bind fun d => (keyD d).map fun q => (.w (.dK [(q, .bool n)]), ρ)
  | .dsp k n, ρ => (evK ρ k).bind fun d => (keyD d).map fun q => (.w (.dK [(q, .int n)]), ρ)
  | .srs a, ρ => (evE ps a ρ).bind fun p => (toD p.1).bind fun d => match d with
      | .tuple ds => (srsD ds).map fun zs => (.n (zs.map .int), p.2)
      | _ => none
  | .revT a, ρ => (evE ps a ρ).bind fun p => (toD p.1).bind fun d => match d with
      | .tuple ds => some (.d (.tuple ds.reverse), p.2)
      | _ => none
  | .revL a, ρ => (evE ps a ρ).bind fun p => (toA p.1).bind fun A => (A.den p.2).bind fun d => match d with
      | .list ds => some (.n ds.reverse, p.2)
      | _ => none
  | .sw e a b, ρ => (evE ps a ρ).bind fun p => (toD p.1).bind fun d => (evE ps b p.2).bind fun q => (toD q.1).bind fun x => match d, x with
      | .str y, .str z => some (.d (.bool (if e then Txt.endswith y z else Txt.startswith y z)), q.2)
      | _, _ => none
  | .lget i a, ρ => (ownF ρ i).bind fun _ => (evE ps a ρ).bind fun p => (toD p.1).bind fun d => (keyD d).bind fun k => (ownF p.2 i).bind fun kvs => (valD kvs k).map fun d => (.d d, p.2)
  | .dget2 i a b, ρ => (ownD ρ i).bind fun _ => (evE ps a ρ).bind fun p => (toD p.1).bind fun d => (keyD d).bind fun k => (evE ps b p.2).bind fun q => (toD q.1).bind fun z => (ownD q.2 i).map fun kvs => (.d ((valD kvs k).getD z), q.2)
  | .callX f as, ρ => (evA ps as ρ).bind fun p => (datas p.1).bind fun ds => (f ds).bind fun r => match r with
      | .ok (.dat d) => some (.d d, p.2)
      | _ => none
def evA (ps : List Nat) : Exs → Rho → Option (List DL.Arg × Rho)
  | .nil, ρ => some ([], ρ)
  | .cons a as, ρ => (evE ps a ρ).bind fun p => (toA p.1).bind fun A => (evA ps as p.2).map fun q => (A :: q.1, q.2)
def evT (ps : List Nat) : Tx → Rho → Option (Bool × Rho)
  | .te a, ρ => (evE ps a ρ).bind fun p => (toD p.1).bind fun d => (asB d).map fun b => (b, p.2)
  | .tb a, ρ => (evE ps a ρ).bind fun p => (toD p.1).bind fun d => (asB d).map fun b => (b, p.2)
  | .nt t, ρ => (evT ps t ρ).map fun p => (!p.1, p.2)
  | .an t u, ρ => (evT ps t ρ).bind fun p => if p.1 then evT ps u p.2 else some (false, p.2)
  | .or t u, ρ => (evT ps t ρ).bind fun p => if p.1 then some (true, p.2) else evT ps u p.2
  | .yes, ρ => some (true, ρ)
  | .lend t, ρ => (evT ps t (ρ.map lentE)).map fun p => (p.1, ρ)
  | .tl a, ρ => (evE ps a ρ).bind fun p => (toA p.1).bind fun A => (A.den p.2).bind fun d => match d with
      | .list ds => some (!ds.isEmpty, p.2)
      | _ => none
def evP (ps : List Nat) : Px → Rho → Option (Option Int × Rho)
  | .no, ρ => some (none, ρ)
  | .at a, ρ => (evE ps a ρ).bind fun p => (toD p.1).bind fun d => (asI d).map fun i => (some i, p.2)
def evI (ps : List Nat) : Ix → Rho → Option (List D × Rho)
  | .rng1 a, ρ => (evE ps a ρ).bind fun p => (toD p.1).bind fun d => (asI d).bind fun n => if -(2 ^ 62) ≤ n ∧ n < 2 ^ 62 then some (rgD 0 n.toNat, p.2) else none
  | .rng2 a b, ρ => (evE ps a ρ).bind fun p => (toD p.1).bind fun d => (asI d).bind fun m => (evE ps b p.2).bind fun q => (toD q.1).bind fun e => (asI e).bind fun n =>
      if (-(2 ^ 62) ≤ m ∧ m < 2 ^ 62) ∧ -(2 ^ 62) ≤ n ∧ n < 2 ^ 62 then some (rgD m (n - m).toNat, q.2) else none
  | .rng3 a b c, ρ => (evE ps a ρ).bind fun p => (toD p.1).bind fun d => (asI d).bind fun m => (evE ps b p.2).bind fun q => (toD q.1).bind fun e => (asI e).bind fun n => (evE ps c q.2).bind fun r => (toD r.1).bind fun f => (asI f).bind fun o =>
      if o = -1 ∧ (-(2 ^ 62) ≤ m ∧ m < 2 ^ 62) ∧ -(2 ^ 62) ≤ n ∧ n < 2 ^ 62 then some (rdD m (m - n).toNat, r.2) else none
  | .u a, ρ => (evE ps a ρ).bind fun p => (toD p.1).bind fun d => match d with
      | .list ds => some (ds, p.2)
      | .tuple ds => some (ds, p.2)
      | _ => none
  | .en a, ρ => (evE ps a ρ).bind fun p => (toD p.1).bind fun d => match d with
      | .tuple ds => some (enD ds, p.2)
      | _ => none
  | .ky i, ρ => (ownF ρ i).map fun kvs => (kvs.map fun p => keyOf p.1, ρ)
  | .enl a, ρ => (evE ps a ρ).bind fun p => (toD p.1).bind fun d => match d with
      | .list ds => some (enD ds, p.2)
      | _ => none
  | .ukd a, ρ => (evE ps a ρ).bind fun p => (dkV p.1).map fun kvs => (kvs.map fun q => keyOf q.1, p.2)
end
mutual
def setG (ps : List Nat) : Tg → D → Rho → Option Rho
  | .nm i, d, ρ => if i < ρ.length ∧ i ∉ ps then some (ρ.set i (.dat d)) else none
  | .tup n ts, .tuple ds, ρ => if ds.length = n then setGs ps ts ds ρ else none
  | .tup _ _, _, _ => none
def setGs (ps : List Nat) : Tgs → List D → Rho → Option Rho
  | .nil, [], ρ => some ρ
  | .cons t ts, d :: ds, ρ => (setG ps t d ρ).bind fun ρ1 => setGs ps ts ds ρ1
  | _, _, _ => none
end
def forGo (f : D → Rho → Option Out) : List D → Rho → Option Out
  | [], ρ => some (.nx ρ)
  | x :: xs, ρ => (f x ρ).bind fun o => match o with
    | .nx ρ1 => forGo f xs ρ1
    | .ct ρ1 => forGo f xs ρ1
    | .bk ρ1 => some (.nx ρ1)
    | .rt ρ1 r => some (.rt ρ1 r)
    | .ex C ρ1 => some (.ex C ρ1)
def whGo (t : Rho → Option (Bool × Rho)) (f : Rho → Option Out) : Nat → Rho → Option Out
  | 0, _ => none
  | n + 1, ρ => (t ρ).bind fun p => if p.1 then (f p.2).bind fun o => match o with
    | .nx ρ1 => whGo t f n ρ1
    | .ct ρ1 => whGo t f n ρ1
    | .bk ρ1 => some (.nx ρ1)
    | .rt ρ1 r => some (.rt ρ1 r)
    | .ex C ρ1 => some (.ex C ρ1)
    else some (.nx p.2)
def setV (ps : List Nat) (ρ : Rho) (i : Nat) : Vl → Option Out
  | .d x => if i < ρ.length ∧ i ∉ ps then some (.nx (ρ.set i (.dat x))) else none
  | .n ds => if i < ρ.length ∧ i ∉ ps then some (.nx (ρ.set i (.own (.lst ds)))) else none
  | .w w => if i < ρ.length ∧ i ∉ ps then some (.nx (ρ.set i (.own w))) else none
  | .o _ => none
def retO (ps : List Nat) (ρ : Rho) : Vl → Option Out
  | .d x => some (.rt ρ (.dat x))
  | .n ds => some (.rt ρ (.new (.lst ds)))
  | .w w => some (.rt ρ (.new w))
  | .o i => (ownL ρ i).bind fun ds => if i ∉ ps then some (.rt (ρ.set i .no) (.new (.lst ds))) else none
def evR (ps : List Nat) : RE → Rho → Option ((Vl × Rho) ⊕ (Addr × Rho))
  | .x f as, ρ => (evA ps as ρ).bind fun p => (datas p.1).bind fun ds => (f ds).bind fun r => match r with
      | .ok (.dat d) => some (.inl (.d d, p.2))
      | .exc C => some (.inr (C, p.2))
      | _ => none
  | .call f a, ρ => (evR ps a ρ).bind fun r => match r with
      | .inl p => (toA p.1).bind fun A => (datas [A]).bind fun ds => (f ds).map fun r => .inl (rvV r, p.2)
      | .inr q => some (.inr q)
  | .lst a, ρ => (evR ps a ρ).bind fun r => match r with
      | .inl p => (toA p.1).bind fun A => (datas [A]).bind fun ds => if ds.length ≤ sizeLine then some (.inl (.n ds, p.2)) else none
      | .inr q => some (.inr q)
  | .e e, ρ => (evE ps e ρ).map .inl
def evB (ps : List Nat) : TB → Rho → Option Out
  | .ret e, ρ => (evR ps e ρ).bind fun r => match r with
      | .inl p => retO ps p.2 p.1
      | .inr q => some (.ex q.1 q.2)
  | .iff t a b, ρ => (evT ps t ρ).bind fun p => if p.1 then evB ps a p.2 else evB ps b p.2
  | .sif t a b, ρ => (evT ps t ρ).bind fun p => if p.1 then (evB ps a p.2).bind fun o => (match o with
      | .nx ρ1 => evB ps b ρ1
      | o => some o) else evB ps b p.2
  | .set j e, ρ => (evR ps e ρ).bind fun r => match r with
      | .inl p => setV ps p.2 j p.1
      | .inr q => some (.ex q.1 q.2)
  | .dr e, ρ => (evR ps e ρ).bind fun r => match r with
      | .inl p => (toD p.1).map fun _ => .nx p.2
      | .inr q => some (.ex q.1 q.2)
  | .sq a b, ρ => (evB ps a ρ).bind fun o => match o with
      | .nx ρ1 => evB ps b ρ1
      | o => some o
  | .nx, ρ => some (.nx ρ)
def tblN (tbl : List (Addr × List Str)) (C : Addr) : Option (List Str) := (tbl.find? fun q => decide (q.1 = C)).map (·.2)
def exS (ps : List Nat) : St → Rho → Option Out
  | .set i e, ρ => (evE ps e ρ).bind fun p => setV ps p.2 i p.1
  | .asg e t, ρ => (evE ps e ρ).bind fun p => (toD p.1).bind fun d => (setG ps t d p.2).map .nx
  | .seti i a e, ρ => (evE ps e ρ).bind fun p => (toD p.1).bind fun d => (ownL p.2 i).bind fun _ => (evE ps a p.2).bind fun q => (toD q.1).bind fun x => (asI x).bind fun n => (ownL q.2 i).bind fun ds =>
      (ixN ds.length n).map fun j => .nx (q.2.set i (.own (.lst (ds.set j d))))
  | .app i e, ρ => (ownL ρ i).bind fun _ => (evE ps e ρ).bind fun p => (toD p.1).bind fun d => (ownL p.2 i).bind fun ds => if ds.length < sizeLine then some (.nx (p.2.set i (.own (.lst (ds ++ [d]))))) else none
  | .newD i, ρ => if i < ρ.length ∧ i ∉ ps then some (.nx (ρ.set i (.own (.dK [])))) else none
  | .dput i a e, ρ => (evE ps e ρ).bind fun p => (toD p.1).bind fun d => (ownD p.2 i).bind fun _ => (evE ps a p.2).bind fun q => (toD q.1).bind fun x => (keyD x).bind fun k => (ownD q.2 i).bind fun kvs =>
      if kvs.length < sizeLine then some (.nx (q.2.set i (.own (.dK (putD kvs k d))))) else none
  | .drop e, ρ => (evE ps e ρ).bind fun p => (toD p.1).map fun _ => .nx p.2
  | .ret e, ρ => (evE ps e ρ).bind fun p => retO ps p.2 p.1
  | .retN, ρ => some (.rt ρ (.dat .none))
  | .iff t a b, ρ => (evT ps t ρ).bind fun p => if p.1 then exS ps a p.2 else exS ps b p.2
  | .for it t b, ρ => (evI ps it ρ).bind fun p => forGo (fun x ρ' => (setG ps t x ρ').bind fun ρ1 => exS ps b ρ1) p.1 p.2
  | .wh n t b, ρ => whGo (fun ρ' => evT ps t ρ') (fun ρ' => exS ps b ρ') n ρ
  | .brk, ρ => some (.bk ρ)
  | .cont, ρ => some (.ct ρ)
  | .nx, ρ => some (.nx ρ)
  | .seq a b, ρ => (exS ps a ρ).bind fun o => match o with
      | .nx ρ1 => exS ps b ρ1
      | o => some o
  | .fz i s, ρ => (match ρ[i]? with
      | some (.own (.lst ds)) => if i ∈ ps then none else exS ps s (ρ.set i (.dat (.list ds)))
      | _ => exS ps s ρ)
  | .retD i, ρ => (ownD ρ i).bind fun kvs => if i ∈ ps then none else some (.rt (ρ.set i .no) (.new (.dK kvs)))
  | .fzD i s, ρ => (match ρ[i]? with
      | some (.own (.dK kvs)) => if i ∈ ps then none else exS ps s (ρ.set i (.dat (.dict (kvE kvs))))
      | _ => exS ps s ρ)
  | .lk i s, ρ => (ownD ρ i).bind fun kvs => if i ∈ ps then none else (exS (i :: ps) s (ρ.set i (.own (.dF kvs)))).bind fun o => match o with
      | .nx ρ' => (ownF ρ' i).bind fun kvs' => if noF (ρ'.set i .no) = true then some (.nx (ρ'.set i (.own (.dK kvs')))) else none
      | _ => none
  | .never, _ => none
  | .tryK b i _ _ tbl, ρ => (evB ps b ρ).bind fun o => match o with
      | .rt ρ' r => some (.rt ρ' r)
      | .ex C ρ' => (tblN tbl C).bind fun ws => if i < ρ'.length then some (.rt ρ' (.new (.lst (ws.map .str)))) else none
      | _ => none
  | .mv i j, ρ => (ownD ρ j).bind fun kvs => if i < ρ.length ∧ i ∉ ps ∧ j ∉ ps then some (.nx ((ρ.set j .no).set i (.own (.dK kvs)))) else none
  | .aug i e, ρ => (match ρ[i]? with
      | some (.dat d) => some d
      | _ => none).bind fun d => (asI d).bind fun m => (evE ps e ρ).bind fun p => (toD p.1).bind fun d => (asI d).bind fun n => if i < p.2.length ∧ i ∉ ps then some (.nx (p.2.set i (.dat (.int (m + n))))) else none
  | .raise C, ρ => some (.ex C ρ)
  | .dropX f as, ρ => (evA ps as ρ).bind fun p => (datas p.1).bind fun ds => (f ds).bind fun r => match r with
      | .ok (.dat _) => some (.nx p.2)
      | .exc C => some (.ex C p.2)
      | _ => none
  | .tryC f as C i _ _, ρ => (evA ps as ρ).bind fun p => (datas p.1).bind fun ds => (f ds).bind fun r => match r with
      | .ok (.dat _) => some (.nx p.2)
      | .exc C' => if C' = C ∧ i < p.2.length then some (.rt p.2 (.dat (.bool true))) else none
      | _ => none
  | .tryN b i S cs hs, ρ => (evB ps b ρ).bind fun o => match o with
      | .ex C ρ' => if C ∈ cs ∧ i < ρ'.length ∧ i ∉ ps then (evHs S C hs).map fun d => .rt (ρ'.set i .no) (.dat d) else none
      | o => some o
def hxN : Hx → List Addr
  | .tst t => tzN t
  | .pick _ _ t => tzN t
  | .pair _ t => tzN t
  | _ => []
def hxL : Hx → Bool
  | .tst t => tzL t
  | .pick _ _ t => tzL t
  | .pair _ t => tzL t
  | _ => true
/-- what a try of the text wants of the classes -/
def sideS (K : PySem.W.Frag) : St → Prop
  | .tryC _ _ C _ S cs => ExcC K C ∧ PySem.W.exmOne K (.ref C) (.ref C) = some true ∧ PySem.W.kitOne K (.ref C) (.ref S) = some true ∧ PySem.W.kitAny K (.ref C) (cs.map Value.ref) = some false ∧ cs.length ≤ sizeLine
  | .iff _ a b => sideS K a ∧ sideS K b
  | .for _ _ b => sideS K b
  | .wh _ _ b => sideS K b
  | .seq a b => sideS K a ∧ sideS K b
  | .fz _ s => sideS K s
  | .fzD _ s => sideS K s
  | .lk _ s => sideS K s
  | .tryK _ _ S kd tbl => ∀ q ∈ tbl, KindOk K S kd q.1 q.2
  | .tryN _ _ S cs hs => KsOk K S cs ∧ ∀ h ∈ hs, (∀ c ∈ h.1 :: hxN h.2, c = S ∨ c ∈ cs) ∧ hxL h.2 = true
  | _ => True
def noTry : St → Bool
  | .tryC _ _ _ _ _ _ => false
  | .iff _ a b => noTry a && noTry b
  | .for _ _ b => noTry b
  | .wh _ _ b => noTry b
  | .seq a b => noTry a && noTry b
  | .fz _ s => noTry s
  | .fzD _ s => noTry s
  | .lk _ s => noTry s
  | .tryK _ _ _ _ _ => false
  | .tryN _ _ _ _ _ => false
  | _ => true
theorem side_of {K : PySem.W.Frag} : ∀ {st : St}, noTry st = true → sideS K st
  | .tryC .., h => by simp [noTry] at h
  | .iff _ a b, h => by
    have h := Bool.and_eq_true_iff.mp h
    exact ⟨side_of h.1, side_of h.2⟩
  | .seq a b, h => by
    have h := Bool.and_eq_true_iff.mp h
    exact ⟨side_of h.1, side_of h.2⟩
  | .for _ _ b, h => side_of (st := b) h
  | .wh _ _ b, h => side_of (st := b) h
  | .fz _ s, h => side_of (st := s) h
  | .fzD _ s, h => side_of (st := s) h
  | .lk _ s, h => side_of (st := s) h
  | .mv .., _ => trivial
  | .never, _ => trivial
  | .tryK .., h => by simp [noTry] at h
  | .tryN .., h => by simp [noTry] at h
  | .aug .., _ => trivial
  | .set .., _ => trivial
  | .asg .., _ => trivial
  | .seti .., _ => trivial
  | .app .., _ => trivial
  | .newD .., _ => trivial
  | .dput .., _ => trivial
  | .drop .., _ => trivial
  | .ret .., _ => trivial
  | .retD .., _ => trivial
  | .retN, _ => trivial
  | .brk, _ => trivial
  | .cont, _ => trivial
  | .nx, _ => trivial
  | .raise .., _ => trivial
  | .dropX .., _ => trivial
end EV
namespace EV
open PySem PySem.Spec PyProof.Rows L2 DL
variable [DL.TabC]
variable {K : PySem.W.Frag} {g : Gm}
def EvV (g : Gm) (te : TE) (ρ : Rho) : Vl → Rho → Prop
  | .d x, ρ' => EvD g te ρ x ρ'
  | .o i, ρ' => EvO g te ρ (.o i) ρ'
  | .n ds, ρ' => EvN g te ρ ds ρ'
  | .w w, ρ' => EvW g te ρ w ρ'
theorem toD_ok {te : TE} {ρ ρ' : Rho} {v : Vl} {d : D} (h : EvV g te ρ v ρ') (e : toD v = some d) : EvD g te ρ d ρ' := by
  cases v with
  | d x => cases e; exact h
  | o i => cases e
  | n ds => cases e; exact ed_ofN h
  | w w =>
    cases w with
    | lst ds => cases e; exact ed_ofW h
    | lls dss => cases e; exact ed_ofWl h
    | dK kvs => cases e; exact ed_ofWd h
    | dF kvs => cases e
theorem toA_ok {te : TE} {ρ ρ' : Rho} {v : Vl} {A : DL.Arg} (h : EvV g te ρ v ρ') (e : toA v = some A) : EvO g te ρ A ρ' := by
  cases v with
  | d x => cases e; exact eo_of h
  | o i => cases e; exact h
  | n ds => cases e; exact eo_of (ed_ofN h)
  | w w =>
    cases w with
    | lst ds => cases e; exact eo_of (ed_ofW h)
    | lls dss => cases e; exact eo_of (ed_ofWl h)
    | dK kvs => cases e; exact eo_of (ed_ofWd h)
    | dF kvs => cases e
theorem asI_eq {d : D} {i : Int} (h : asI d = some i) : d = .int i := by
  cases d <;> first | (cases h; rfl) | cases h
theorem asB_eq {d : D} {i : Bool} (h : asB d = some i) : d = .bool i := by
  cases d <;> first | (cases h; rfl) | cases h
theorem keyD_eq {d : D} {k : Key} (h : keyD d = some k) : d = keyOf k := by
  cases d <;> first | (cases h; rfl) | cases h
theorem asRz_eq {z : Rz} {d : D} (h : asRz z = some d) : z = .d d := by
  cases z <;> first | (cases h; rfl) | cases h
theorem ownL_eq {ρ : Rho} {i : Nat} {ds : List D} (h : ownL ρ i = some ds) : ρ[i]? = some (.own (.lst ds)) := by
  unfold ownL at h
  split at h
  · rename_i q; cases h; exact q
  · cases h
theorem ownD_eq {ρ : Rho} {i : Nat} {ds : List (Key × D)} (h : ownD ρ i = some ds) : ρ[i]? = some (.own (.dK ds)) := by
  unfold ownD at h
  split at h
  · rename_i q; cases h; exact q
  · cases h
theorem ownF_eq {ρ : Rho} {i : Nat} {ds : List (Key × D)} (h : ownF ρ i = some ds) : ρ[i]? = some (.own (.dF ds)) := by
  unfold ownF at h
  split at h
  · rename_i q; cases h; exact q
  · cases h
theorem datV_eq {ρ : Rho} {i : Nat} {d : D} (h : datV ρ i = some d) : ρ[i]? = some (.dat d) := by
  unfold datV at h
  split at h
  · rename_i q; cases h; exact q
  · cases h
theorem noF_eq {ρ : Rho} (h : noF ρ = true) : ∀ (i : Nat) ks, ρ[i]? ≠ some (.own (.dF ks)) := fun i ks q => by
  have := List.all_eq_true.mp h _ (List.mem_of_getElem? q)
  cases this
section
variable {ta tb tc te : TE} {ρ ρ1 ρ2 ρ3 : Rho} {A B C : DL.Arg} {a b x : Bool}
theorem evV_if {t : TT} {v : Vl} (h : EvT g t ρ b ρ1) (h1 : b = true → EvV g ta ρ1 v ρ2) (h2 : b = false → EvV g tb ρ1 v ρ2) : EvV g (tIf t ta tb) ρ v ρ2 := by
  cases v with
  | d z =>
    refine fun c F H σ k s Q q => h c F H σ k s _ fun F1 H1 s1 e1 => ?_
    cases b with
    | true => exact h1 rfl c F1 H1 σ k s1 Q fun v F' H' s' e y => q v F' H' s' (e1.trans e) y
    | false => exact h2 rfl c F1 H1 σ k s1 Q fun v F' H' s' e y => q v F' H' s' (e1.trans e) y
  | o z =>
    refine fun c F H σ k s Q q => h c F H σ k s _ fun F1 H1 s1 e1 => ?_
    cases b with
    | true => exact h1 rfl c F1 H1 σ k s1 Q fun v F' H' s' e y => q v F' H' s' (e1.trans e) y
    | false => exact h2 rfl c F1 H1 σ k s1 Q fun v F' H' s' e y => q v F' H' s' (e1.trans e) y
  | n z =>
    refine fun c F H σ k s Q q => h c F H σ k s _ fun F1 H1 s1 e1 => ?_
    cases b with
    | true => exact h1 rfl c F1 H1 σ k s1 Q fun v w F' H' s' e y => q v w F' H' s' (e1.trans e) y
    | false => exact h2 rfl c F1 H1 σ k s1 Q fun v w F' H' s' e y => q v w F' H' s' (e1.trans e) y
  | w z =>
    refine fun c F H σ k s Q q => h c F H σ k s _ fun F1 H1 s1 e1 => ?_
    cases b with
    | true => exact h1 rfl c F1 H1 σ k s1 Q fun v F' H' s' e => q v F' H' s' (e1.trans e)
    | false => exact h2 rfl c F1 H1 σ k s1 Q fun v F' H' s' e => q v F' H' s' (e1.trans e)
theorem ed_andT (h1 : EvD g ta ρ (.bool true) ρ1) (h2 : EvD g tb ρ1 (.bool b) ρ2) : EvD g (tAndV ta tb) ρ (.bool b) ρ2 := fun c F H σ k s Q q => h1 c F H σ k s _ fun v F1 H1 s1 e1 y => by
  cases y
  refine ⟨true, rfl, ?_⟩
  rw [if_pos rfl]
  exact h2 c F1 H1 σ k s1 Q fun v F' H' s' e y => q v F' H' s' (e1.trans e) y
theorem ed_andF (h1 : EvD g ta ρ (.bool false) ρ1) : EvD g (tAndV ta tb) ρ (.bool false) ρ1 := fun c F H σ k s Q q => h1 c F H σ k s _ fun v F1 H1 s1 e1 y => by
  cases y
  refine ⟨false, rfl, ?_⟩
  rw [if_neg (by decide)]
  exact q _ F1 H1 s1 e1 (.bl _)
theorem ed_orF (h1 : EvD g ta ρ (.bool false) ρ1) (h2 : EvD g tb ρ1 (.bool b) ρ2) : EvD g (tOrV ta tb) ρ (.bool b) ρ2 := fun c F H σ k s Q q => h1 c F H σ k s _ fun v F1 H1 s1 e1 y => by
  cases y
  refine ⟨false, rfl, ?_⟩
  rw [if_neg (by decide)]
  exact h2 c F1 H1 σ k s1 Q fun v F' H' s' e y => q v F' H' s' (e1.trans e) y
theorem ed_orT (h1 : EvD g ta ρ (.bool true) ρ1) : EvD g (tOrV ta tb) ρ (.bool true) ρ1 := fun c F H σ k s Q q => h1 c F H σ k s _ fun v F1 H1 s1 e1 y => by
  cases y
  refine ⟨true, rfl, ?_⟩
  rw [if_pos rfl]
  exact q _ F1 H1 s1 e1 (.bl _)
theorem et_andT {t u : TT} (h1 : EvT g t ρ true ρ1) (h2 : EvT g u ρ1 b ρ2) : EvT g (tAnd t u) ρ b ρ2 := fun c F H σ k s Q q => h1 c F H σ k s _ fun F1 H1 s1 e1 => by
  rw [if_pos rfl]
  exact h2 c F1 H1 σ k s1 Q fun F' H' s' e => q F' H' s' (e1.trans e)
theorem et_andF {t u : TT} (h1 : EvT g t ρ false ρ1) : EvT g (tAnd t u) ρ false ρ1 := fun c F H σ k s Q q => h1 c F H σ k s _ fun F1 H1 s1 e1 => by
  rw [if_neg (by decide)]
  exact q F1 H1 s1 e1
theorem et_orF {t u : TT} (h1 : EvT g t ρ false ρ1) (h2 : EvT g u ρ1 b ρ2) : EvT g (tOr t u) ρ b ρ2 := fun c F H σ k s Q q => h1 c F H σ k s _ fun F1 H1 s1 e1 => by
  rw [if_neg (by decide)]
  exact h2 c F1 H1 σ k s1 Q fun F' H' s' e => q F' H' s' (e1.trans e)
theorem et_orT {t u : TT} (h1 : EvT g t ρ true ρ1) : EvT g (tOr t u) ρ true ρ1 := fun c F H σ k s Q q => h1 c F H σ k s _ fun F1 H1 s1 e1 => by
  rw [if_pos rfl]
  exact q F1 H1 s1 e1
theorem et_yes' : EvT g tYes ρ true ρ := fun c F H σ k s Q q => q F H s (Same.refl _)
theorem ed_chT {r r' : R2} {d e e2 f z : D} (ha : EvO g ta ρ A ρ1) (hb : EvO g tb ρ1 B ρ2) (hr : R2D g.K r d e (.bool true)) (hc : EvO g tc ρ2 C ρ3) (hr' : R2D g.K r' e2 f z)
    (dA : A.den ρ2 = some d) (dB : B.den ρ2 = some e) (dB2 : B.den ρ3 = some e2) (dC : C.den ρ3 = some f) : EvD g (tChain r r' ta tb tc) ρ z ρ3 := fun c F H σ k s Q q => by
  refine ha c F H σ k s _ fun x F1 H1 s1 e1 h1 => hb c F1 H1 σ k s1 _ fun y F2 H2 s2 q2 h2 => ?_
  have kk : c.K = g.K := k.1
  have o1 := Arg.opd s2 (h1.up q2) dA
  have o2 := Arg.opd s2 h2 dB
  rw [kk] at o1 o2
  refine hr F2 H2 x y _ s2.fh o1 o2 fun v F3 H3 rs => ?_
  rw [← kk] at rs
  obtain ⟨s3, e3, q3⟩ := rs.sim s2
  cases q3
  refine ⟨true, rfl, ?_⟩
  rw [if_pos rfl]
  refine hc c F3 H3 σ k s3 _ fun w F4 H4 s4 e4 h4 => ?_
  have o2' := Arg.opd s4 (h2.up (e3.trans e4)) dB2
  have o3 := Arg.opd s4 h4 dC
  rw [kk] at o2' o3
  refine hr' F4 H4 y w Q s4.fh o2' o3 fun v F5 H5 rs => ?_
  rw [← kk] at rs
  obtain ⟨s5, e5, q5⟩ := rs.sim s4
  exact q v F5 H5 s5 ((((e1.trans q2).trans e3).trans e4).trans e5) q5
theorem ed_chF {r r' : R2} {d e : D} (ha : EvO g ta ρ A ρ1) (hb : EvO g tb ρ1 B ρ2) (hr : R2D g.K r d e (.bool false)) (dA : A.den ρ2 = some d) (dB : B.den ρ2 = some e) : EvD g (tChain r r' ta tb tc) ρ (.bool false) ρ2 := fun c F H σ k s Q q => by
  refine ha c F H σ k s _ fun x F1 H1 s1 e1 h1 => hb c F1 H1 σ k s1 _ fun y F2 H2 s2 q2 h2 => ?_
  have kk : c.K = g.K := k.1
  have o1 := Arg.opd s2 (h1.up q2) dA
  have o2 := Arg.opd s2 h2 dB
  rw [kk] at o1 o2
  refine hr F2 H2 x y _ s2.fh o1 o2 fun v F3 H3 rs => ?_
  rw [← kk] at rs
  obtain ⟨s3, e3, q3⟩ := rs.sim s2
  cases q3
  refine ⟨false, rfl, ?_⟩
  rw [if_neg (by decide)]
  exact q _ F3 H3 s3 ((e1.trans q2).trans e3) (.bl _)
/-- the environment told less -/
theorem evI_wk {wi : TI} {n : Nat} {xs : Nat → D} {j : Nat} (h : EvI g wi ρ n xs ρ1) : EvI g wi ρ n xs (ρ1.set j .no) := fun c F H σ k s R q => h c F H σ k s R fun J F' H' s' e w => q J F' H' (s'.weak (by simp) fun i => by
  by_cases z : i = j
  · subst z
    right
    intro e q
    by_cases hl : i < ρ1.length
    · rw [List.getElem?_set_self hl] at q; exact (Option.some.inj q).symm
    · rw [List.getElem?_eq_none (by simp; omega)] at q; cases q
  · left
    rw [List.getElem?_set_ne (Ne.symm z)]) e w
theorem evI_congr {wi : TI} {n : Nat} {xs ys : Nat → D} (h : EvI g wi ρ n xs ρ1) (e : ∀ i, i < n → xs i = ys i) : EvI g wi ρ n ys ρ1 := fun c F H σ k s R q => h c F H σ k s R fun J F' H' s' q2 w => q J F' H' s' q2 fun F2 H2 a1 a2 => by
  obtain ⟨w1, w2, w3⟩ := w F2 H2 a1 a2
  refine ⟨w1, w2, fun i x H' hi y => ?_⟩
  obtain ⟨F3, r⟩ := w3 i x H' hi y
  exact ⟨F3, e i hi ▸ r⟩
theorem back_set2 {ρ4 : Rho} {i j : Nat} : Back [i, j] ρ4 ((ρ4.set i .no).set j .no) := by
  refine ⟨by simp, fun k m e q => ?_, fun k m => ?_⟩
  · by_cases kj : k = j
    · subst kj
      by_cases hl : k < (ρ4.set i .no).length
      · rw [List.getElem?_set_self hl] at q; exact (Option.some.inj q).symm
      · rw [List.getElem?_eq_none (by rw [List.length_set]; omega)] at q; cases q
    · rw [List.getElem?_set_ne (Ne.symm kj)] at q
      have ki : k = i := by simpa [kj] using m
      subst ki
      by_cases hl : k < ρ4.length
      · rw [List.getElem?_set_self hl] at q; exact (Option.some.inj q).symm
      · rw [List.getElem?_eq_none (by rw [List.length_set]; omega)] at q; cases q
  · have h1 : k ≠ i := fun e => m (by simp [e])
    have h2 : k ≠ j := fun e => m (by simp [e])
    rw [List.getElem?_set_ne (Ne.symm h2), List.getElem?_set_ne (Ne.symm h1)]
theorem set_no2 {ρ : Rho} {i j k : Nat} {e : Ent} (m : k ∈ [i, j]) (q : ((ρ.set i .no).set j .no)[k]? = some e) : e = .no := back_set2.2.1 k m e q
theorem tgc_two {ρ : Rho} {a b : D} {i j : Nat} (hi : i < ρ.length) (hj : j < ρ.length) (pi : i ∉ g.ps) (pj : j ∉ g.ps) : TgC g (gTup g.K 2 (gCons (gName i) (gCons (gName j) gNil))) [i, j] (.tuple [a, b]) ρ ((ρ.set i (.dat a)).set j (.dat b)) := fun c F H σ v hP kk s x Q q => by
  cases x with
  | tup hs ha =>
    rw [kk] at hs
    cases ha with
    | cons xa t =>
      cases t with
      | cons xb t =>
        cases t
        refine ⟨_, _, rfl, stUp s.fh hs.old, rfl, _, _, rfl, _, _, rfl, rfl, q _ ((s.setDat xa hi (hP i pi)).setDat xb (by rw [List.length_set]; exact hj) (hP j pj)) (by simp) fun k m => ?_⟩
        have h1 : k ≠ i := fun e => m (by simp [e])
        have h2 : k ≠ j := fun e => m (by simp [e])
        rw [List.getElem?_set_ne (Ne.symm h2), List.getElem?_set_ne (Ne.symm h1)]
theorem back_set {ρ4 : Rho} {j : Nat} (hj : j < ρ4.length ∨ True) : Back [j] ρ4 (ρ4.set j .no) := by
  refine ⟨by simp, fun i m e q => ?_, fun i m => ?_⟩
  · rw [List.mem_singleton.mp m] at q
    by_cases hl : j < ρ4.length
    · rw [List.getElem?_set_self hl] at q; exact (Option.some.inj q).symm
    · rw [List.getElem?_eq_none (by simp; omega)] at q; cases q
  · rw [List.getElem?_set_ne (fun z => m (by simp [z]))]
theorem set_no {ρ4 : Rho} {j : Nat} : ∀ e : Ent, (ρ4.set j .no)[j]? = some e → e = .no := fun e q => by
  by_cases hl : j < ρ4.length
  · rw [List.getElem?_set_self hl] at q; exact (Option.some.inj q).symm
  · rw [List.getElem?_eq_none (by simp; omega)] at q; cases q
/-- a comprehension's turns, numbered -/
theorem lcGo_turns {f : D → Rho → Option (Option D × Rho)} : ∀ {l : List D} {ρ ρ' : Rho} {ds : List D}, lcGo f l ρ = some (ds, ρ') →
    ∃ (E : Nat → Rho) (bs : Nat → Bool) (dd : Nat → D), E 0 = ρ ∧ E l.length = ρ' ∧ ds = ((List.range l.length).filter bs).map dd ∧
      ∀ i, i < l.length → f (nthD l i) (E i) = some (if bs i then some (dd i) else none, E (i + 1))
  | [], ρ, ρ', ds, h => by
    cases h
    exact ⟨fun _ => ρ, fun _ => true, fun _ => .none, rfl, rfl, rfl, fun i hi => absurd hi (by simp)⟩
  | x :: xs, ρ, ρ', ds, h => by
    obtain ⟨⟨od, ρ1⟩, h1, h2⟩ := Option.bind_eq_some_iff.mp (show (f x ρ).bind _ = _ from h)
    obtain ⟨⟨es, ρ2⟩, h3, h4⟩ := Option.bind_eq_some_iff.mp h2
    obtain ⟨E, bs, dd, e0, en, ed, st⟩ := lcGo_turns h3
    refine ⟨fun i => match i with | 0 => ρ | i + 1 => E i, fun i => match i with | 0 => od.isSome | i + 1 => bs i, fun i => match i with | 0 => od.getD .none | i + 1 => dd i, rfl, ?_, ?_, ?_⟩
    · have h4 := Option.some.inj h4
      rw [show (x :: xs).length = xs.length + 1 from rfl]
      show E xs.length = ρ'
      rw [en]
      exact (congrArg Prod.snd h4)
    · have h4 := Option.some.inj h4
      have h5 := congrArg Prod.fst h4
      simp only at h5
      rw [← h5, List.length_cons, List.range_succ_eq_map, List.filter_cons]
      cases od with
      | none =>
        simp only [Option.isSome_none, Bool.false_eq_true, if_false]
        rw [List.filter_map, List.map_map, ed]
        rfl
      | some d =>
        simp only [Option.isSome_some, if_true, List.map_cons, Option.getD_some]
        rw [List.filter_map, List.map_map, ed]
        rfl
    · intro i hi
      cases i with
      | zero =>
        show f x ρ = some (if od.isSome = true then some (od.getD .none) else none, E 0)
        rw [h1, e0]
        cases od <;> rfl
      | succ i =>
        have := st i (by simpa using hi)
        exact this
end
theorem idxOf_ok {d : D} : ∀ {ds : List D} {j : Nat}, idxOf d ds = some j → ∃ z, ds[j]? = some z ∧ PyData.eqv z d = true ∧ ∀ (m : Nat) (z' : D), m < j → ds[m]? = some z' → PyData.eqv z' d = false
  | [], _, h => by cases h
  | z :: ds, j, h => by
    unfold idxOf at h
    split at h
    · rename_i hz
      cases h
      exact ⟨z, rfl, hz, fun m z' hm => by omega⟩
    · rename_i hz
      obtain ⟨i, h1, rfl⟩ := Option.map_eq_some_iff.mp h
      obtain ⟨y, h2, h3, h4⟩ := idxOf_ok h1
      refine ⟨y, h2, h3, fun m z' hm q => ?_⟩
      cases m with
      | zero => cases (Option.some.inj q); simpa using hz
      | succ m => exact h4 m z' (by omega) q
theorem idxS_ok {x : Str} : ∀ {ds : List Str} {j : Nat}, idxS x ds = some j → ds[j]? = some x ∧ ∀ m, m < j → ds[m]? ≠ some x
  | [], _, h => by cases h
  | z :: ds, j, h => by
    unfold idxS at h
    split at h
    · rename_i hz
      cases h
      exact ⟨by rw [hz]; rfl, fun m hm => by omega⟩
    · rename_i hz
      obtain ⟨i, h1, rfl⟩ := Option.map_eq_some_iff.mp h
      obtain ⟨h2, h3⟩ := idxS_ok h1
      refine ⟨h2, fun m hm q => ?_⟩
      cases m with
      | zero => exact hz (Option.some.inj q)
      | succ m => exact h3 m (by omega) q
theorem rgD_len {a : Int} {n : Nat} : (rgD a n).length = n := by simp [rgD]
theorem rgD_at {a : Int} {n i : Nat} (h : i < n) : nthD (rgD a n) i = .int (a + (i : Nat)) := by
  unfold nthD rgD
  rw [List.getD_eq_getElem?_getD, List.getElem?_map, List.getElem?_range h]
  rfl
theorem rdD_len {a : Int} {n : Nat} : (rdD a n).length = n := by simp [rdD]
theorem rdD_at {a : Int} {n i : Nat} (h : i < n) : nthD (rdD a n) i = .int (a - (i : Nat)) := by
  unfold nthD rdD
  rw [List.getD_eq_getElem?_getD, List.getElem?_map, List.getElem?_range h]
  rfl
theorem evK_ok {ρ : Rho} {k : Kx} {d : D} (h : evK ρ k = some d) : PureE g (denK k) ρ d := by
  cases k with
  | v j =>
    change (match ρ[j]? with | some (.dat d) => some d | _ => none) = some d at h
    split at h
    · rename_i q; cases h; exact pure_var q
    · cases h
  | c i => cases h; exact pure_int
  | m i => cases h; exact pure_neg
theorem enD_len {ds : List D} : (enD ds).length = ds.length := by simp [enD]
theorem enD_at {ds : List D} {i : Nat} (h : i < ds.length) : nthD (enD ds) i = pairD ds i := by
  unfold nthD enD
  rw [List.getD_eq_getElem?_getD, List.getElem?_map, List.getElem?_range h]
  rfl
theorem rg_map {n : Int} : ((List.range (n - 0).toNat).map fun i => (0 : Int) + (i : Nat)).map PyData.int = rgD 0 n.toNat := by
  unfold rgD
  rw [List.map_map, Int.sub_zero]
  rfl
end EV
namespace EV
open PySem PySem.Spec PyProof.Rows L2 DL
variable [DL.TabC]
variable {K : PySem.W.Frag} {g : Gm}
theorem rzV_ok {r : R2} {ta tb : TE} {ρ ρ1 ρ2 : Rho} {A B : DL.Arg} {d e : D} {z : Rz} (ha : EvO g ta ρ A ρ1) (hb : EvO g tb ρ1 B ρ2) (dA : A.den ρ2 = some d) (dB : B.den ρ2 = some e) (h : RzOk g.K r d e z) : EvV g (tOp r ta tb) ρ (rzV z) ρ2 := by
  cases z with
  | d z => exact ed_op ha hb h dA dB
  | n z => exact en_op ha hb h dA dB
theorem bnd {α β : Type} {o : Option α} {f : α → Option β} {b : β} (h : o.bind f = some b) : ∃ a, o = some a ∧ f a = some b := Option.bind_eq_some_iff.mp h
theorem mpd {α β : Type} {o : Option α} {f : α → β} {b : β} (h : o.map f = some b) : ∃ a, o = some a ∧ f a = b := Option.map_eq_some_iff.mp h
theorem two_eq {x a b : D} (h : two x = some (a, b)) : x = .tuple [a, b] := by
  unfold two at h
  split at h
  · cases h; rfl
  · cases h
mutual
theorem evE_ok : ∀ (e : Ex) (ρ : Rho) (v : Vl) (ρ' : Rho), evE g.ps e ρ = some (v, ρ') → EvV g (denE g.K g.xe e) ρ v ρ'
  | .int i, ρ, v, ρ', h => by cases h; exact ed_int
  | .bl i, ρ, v, ρ', h => by cases h; exact ed_bl
  | .str i, ρ, v, ρ', h => by cases h; exact ed_str
  | .non, ρ, v, ρ', h => by cases h; exact ed_non
  | .var i, ρ, v, ρ', h => by
    obtain ⟨w, h1, h2⟩ := mpd (show (varV ρ i).map (fun v => (v, ρ)) = some (v, ρ') from h)
    cases h2
    unfold varV at h1
    split at h1
    · rename_i q; cases h1; exact ed_var q
    · rename_i q; cases h1; exact eo_own q
    · cases h1
  | .op o a b, ρ, v, ρ', h => by
    unfold evE at h
    replace h := bnd h; obtain ⟨⟨va, ρ1⟩, h1, h⟩ := h
    replace h := bnd h; obtain ⟨A, hA, h⟩ := h
    replace h := bnd h; obtain ⟨⟨vb, ρ2⟩, h2, h⟩ := h
    replace h := bnd h; obtain ⟨B, hB, h⟩ := h
    replace h := bnd h; obtain ⟨d, dA, h⟩ := h
    replace h := bnd h; obtain ⟨e, dB, h⟩ := h
    replace h := mpd h; obtain ⟨z, hz, h⟩ := h
    cases h
    exact rzV_ok (toA_ok (evE_ok a _ _ _ h1) hA) (toA_ok (evE_ok b _ _ _ h2) hB) dA dB (op2_ok o d e z hz)
  | .neg a, ρ, v, ρ', h => by
    unfold evE at h
    replace h := bnd h; obtain ⟨⟨va, ρ1⟩, h1, h⟩ := h
    replace h := bnd h; obtain ⟨A, hA, h⟩ := h
    replace h := bnd h; obtain ⟨d, dA, h⟩ := h
    replace h := mpd h; obtain ⟨i, hi, h⟩ := h
    cases h
    cases asI_eq hi
    exact ed_un (toA_ok (evE_ok a _ _ _ h1) hA) ru_neg dA
  | .nt a, ρ, v, ρ', h => by
    unfold evE at h
    replace h := bnd h; obtain ⟨⟨va, ρ1⟩, h1, h⟩ := h
    replace h := bnd h; obtain ⟨d, hd, h⟩ := h
    replace h := mpd h; obtain ⟨i, hi, h⟩ := h
    cases h
    cases asB_eq hi
    exact ed_not (toD_ok (evE_ok a _ _ _ h1) hd)
  | .an a b, ρ, v, ρ', h => by
    unfold evE at h
    replace h := bnd h; obtain ⟨⟨va, ρ1⟩, h1, h⟩ := h
    replace h := bnd h; obtain ⟨d, hd, h⟩ := h
    replace h := bnd h; obtain ⟨x, hx, h⟩ := h
    cases asB_eq hx
    have k1 := toD_ok (evE_ok a _ _ _ h1) hd
    cases x with
    | true =>
      rw [if_pos rfl] at h
      replace h := bnd h; obtain ⟨⟨vb, ρ2⟩, h2, h⟩ := h
      replace h := bnd h; obtain ⟨e, he, h⟩ := h
      replace h := mpd h; obtain ⟨y, hy, h⟩ := h
      cases h
      cases asB_eq hy
      exact ed_andT k1 (toD_ok (evE_ok b _ _ _ h2) he)
    | false =>
      rw [if_neg (by decide)] at h
      cases h
      exact ed_andF k1
  | .or a b, ρ, v, ρ', h => by
    unfold evE at h
    replace h := bnd h; obtain ⟨⟨va, ρ1⟩, h1, h⟩ := h
    replace h := bnd h; obtain ⟨d, hd, h⟩ := h
    replace h := bnd h; obtain ⟨x, hx, h⟩ := h
    cases asB_eq hx
    have k1 := toD_ok (evE_ok a _ _ _ h1) hd
    cases x with
    | false =>
      rw [if_neg (by decide)] at h
      replace h := bnd h; obtain ⟨⟨vb, ρ2⟩, h2, h⟩ := h
      replace h := bnd h; obtain ⟨e, he, h⟩ := h
      replace h := mpd h; obtain ⟨y, hy, h⟩ := h
      cases h
      cases asB_eq hy
      exact ed_orF k1 (toD_ok (evE_ok b _ _ _ h2) he)
    | true =>
      rw [if_pos rfl] at h
      cases h
      exact ed_orT k1
  | .ch o o' a b c, ρ, v, ρ', h => by
    unfold evE at h
    replace h := bnd h; obtain ⟨⟨va, ρ1⟩, h1, h⟩ := h
    replace h := bnd h; obtain ⟨A, hA, h⟩ := h
    replace h := bnd h; obtain ⟨⟨vb, ρ2⟩, h2, h⟩ := h
    replace h := bnd h; obtain ⟨B, hB, h⟩ := h
    replace h := bnd h; obtain ⟨d, dA, h⟩ := h
    replace h := bnd h; obtain ⟨e, dB, h⟩ := h
    replace h := bnd h; obtain ⟨z, hz, h⟩ := h
    replace h := bnd h; obtain ⟨z', hz', h⟩ := h
    replace h := bnd h; obtain ⟨x, hx, h⟩ := h
    cases asRz_eq hz'
    cases asB_eq hx
    have r1 := op2_ok (K := g.K) o d e _ hz
    cases x with
    | true =>
      rw [if_pos rfl] at h
      replace h := bnd h; obtain ⟨⟨vc, ρ3⟩, h3, h⟩ := h
      replace h := bnd h; obtain ⟨C, hC, h⟩ := h
      replace h := bnd h; obtain ⟨e2, dB2, h⟩ := h
      replace h := bnd h; obtain ⟨f, dC, h⟩ := h
      replace h := bnd h; obtain ⟨y, hy, h⟩ := h
      replace h := bnd h; obtain ⟨y', hy', h⟩ := h
      replace h := mpd h; obtain ⟨w, hw, h⟩ := h
      cases h
      cases asRz_eq hy'
      cases asB_eq hw
      exact ed_chT (toA_ok (evE_ok a _ _ _ h1) hA) (toA_ok (evE_ok b _ _ _ h2) hB) r1 (toA_ok (evE_ok c _ _ _ h3) hC) (op2_ok (K := g.K) o' e2 f _ hy) dA dB dB2 dC
    | false =>
      rw [if_neg (by decide)] at h
      cases h
      exact ed_chF (toA_ok (evE_ok a _ _ _ h1) hA) (toA_ok (evE_ok b _ _ _ h2) hB) r1 dA dB
  | .isN a, ρ, v, ρ', h => by
    unfold evE at h
    replace h := bnd h; obtain ⟨⟨va, ρ1⟩, h1, h⟩ := h
    replace h := mpd h; obtain ⟨d, hd, h⟩ := h
    cases h
    exact ed_isN (toD_ok (evE_ok a _ _ _ h1) hd)
  | .notN a, ρ, v, ρ', h => by
    unfold evE at h
    replace h := bnd h; obtain ⟨⟨va, ρ1⟩, h1, h⟩ := h
    replace h := mpd h; obtain ⟨d, hd, h⟩ := h
    cases h
    exact ed_notN (toD_ok (evE_ok a _ _ _ h1) hd)
  | .ife t a b, ρ, v, ρ', h => by
    unfold evE at h
    replace h := bnd h; obtain ⟨⟨x, ρ1⟩, h1, h⟩ := h
    refine evV_if (evT_ok t _ _ _ h1) (fun hx => ?_) (fun hx => ?_)
    · simp only [hx, if_true] at h
      exact evE_ok a _ _ _ h
    · simp only [hx, Bool.false_eq_true, if_false] at h
      exact evE_ok b _ _ _ h
  | .tup as, ρ, v, ρ', h => by
    unfold evE at h
    replace h := bnd h; obtain ⟨⟨As, ρ1⟩, h1, h⟩ := h
    replace h := bnd h; obtain ⟨ds, hd, h⟩ := h
    split at h
    · cases h
      exact ed_tup (evA_ok as _ _ _ h1) hd ‹_›
    · cases h
  | .lst as, ρ, v, ρ', h => by
    unfold evE at h
    replace h := bnd h; obtain ⟨⟨As, ρ1⟩, h1, h⟩ := h
    replace h := bnd h; obtain ⟨ds, hd, h⟩ := h
    split at h
    · cases h
      exact en_lst (evA_ok as _ _ _ h1) hd ‹_›
    · cases h
  | .sl a lo hi, ρ, v, ρ', h => by
    unfold evE at h
    replace h := bnd h; obtain ⟨⟨va, ρ1⟩, h1, h⟩ := h
    replace h := bnd h; obtain ⟨A, hA, h⟩ := h
    replace h := bnd h; obtain ⟨⟨l, ρ2⟩, h2, h⟩ := h
    replace h := bnd h; obtain ⟨⟨u, ρ3⟩, h3, h⟩ := h
    replace h := bnd h; obtain ⟨d, dA, h⟩ := h
    replace h := mpd h; obtain ⟨z, hz, h⟩ := h
    cases h
    have k1 := toA_ok (evE_ok a _ _ _ h1) hA
    have k2 := evP_ok lo _ _ _ h2
    have k3 := evP_ok hi _ _ _ h3
    unfold sl1 at hz
    split at hz
    · cases hz
      exact ed_sl k1 k2 k3 (fun F H x Q f o q => .inl (rs_tup F H x Q f o q)) dA
    · cases hz
      exact en_sl k1 k2 k3 (fun F H x Q f o q => .inr (rs_list F H x Q f o q)) dA
    · cases hz
  | .cb f as, ρ, v, ρ', h => by
    unfold evE at h
    replace h := bnd h; obtain ⟨⟨As, ρ1⟩, h1, h⟩ := h
    replace h := bnd h; obtain ⟨ds, hd, h⟩ := h
    replace h := mpd h; obtain ⟨z, hz, h⟩ := h
    cases h
    have k := cb1_ok (K := g.K) f ds z hz
    cases z with
    | d z => exact ed_cb (evA_ok as _ _ _ h1) k hd
    | n z => exact en_cb (evA_ok as _ _ _ h1) k hd
  | .isa a T, ρ, v, ρ', h => by
    unfold evE at h
    replace h := bnd h; obtain ⟨⟨va, ρ1⟩, h1, h⟩ := h
    replace h := bnd h; obtain ⟨A, hA, h⟩ := h
    replace h := bnd h; obtain ⟨d, dA, h⟩ := h
    replace h := mpd h; obtain ⟨b, hb, h⟩ := h
    cases h
    exact ed_isaB (toA_ok (evE_ok a _ _ _ h1) hA) dA hb
  | .call f as, ρ, v, ρ', h => by
    unfold evE at h
    replace h := bnd h; obtain ⟨⟨As, ρ1⟩, h1, h⟩ := h
    replace h := bnd h; obtain ⟨ds, hd, h⟩ := h
    replace h := mpd h; obtain ⟨r, hr, h⟩ := h
    cases h
    cases r with
    | dat d => exact ed_call (evA_ok as _ _ _ h1) hr hd
    | new w => exact ew_call (evA_ok as _ _ _ h1) hr hd
  | .callS f i as, ρ, v, ρ', h => by
    unfold evE at h
    replace h := bnd h; obtain ⟨s0, h0, h⟩ := h
    replace h := bnd h; obtain ⟨⟨As, ρ1⟩, h1, h⟩ := h
    replace h := bnd h; obtain ⟨ds, hd, h⟩ := h
    replace h := bnd h; obtain ⟨st, hst, h⟩ := h
    replace h := mpd h; obtain ⟨⟨r, st'⟩, hr, h⟩ := h
    cases h
    have k := ea_cons (eo_own (g := g) (ownL_eq h0)) (evA_ok as _ _ _ h1)
    cases r with
    | dat d => exact ed_callS k (ownL_eq hst) hr hd
    | new w => exact ew_callS k (ownL_eq hst) hr hd
  | .lc it j t e, ρ, v, ρ', h => by
    unfold evE at h
    replace h := bnd h; obtain ⟨⟨l, ρ1⟩, h1, h⟩ := h
    split at h
    · rename_i hc
      replace h := mpd h; obtain ⟨⟨ds, ρ2⟩, h2, h⟩ := h
      cases h
      obtain ⟨E, bs, dd, e0, en, ed, st⟩ := lcGo_turns h2
      have hno : ∀ i, i ≤ l.length → ∀ e : Ent, (E i)[j]? = some e → e = .no := fun i hi => by
        cases i with
        | zero => rw [e0]; exact set_no
        | succ i =>
          have := st i (Nat.lt_of_succ_le hi)
          split at this
          case isFalse => cases this
          obtain ⟨⟨b, ρ3⟩, q1, q2⟩ := bnd this
          simp only at q2
          split at q2
          · obtain ⟨⟨w, ρ4⟩, q3, q4⟩ := bnd q2
            obtain ⟨d, q5, q6⟩ := mpd q4
            have z := congrArg Prod.snd q6
            simp only at z
            rw [← z]; exact set_no
          · have z := congrArg Prod.snd (Option.some.inj q2)
            simp only at z
            rw [← z]; exact set_no
      simp only at ed en
      show EvN g _ ρ ds ρ2
      rw [← en, ed]
      refine en_lc (vs := [j]) (ρ1 := ρ1.set j .no) (evI_wk (evI_ok it _ _ _ h1)) E bs dd e0 hc.1 (fun i m => by rw [List.mem_singleton.mp m]; exact hc.2) (fun i hi k m => by rw [List.mem_singleton.mp m]; exact hno i hi) fun i hi => ?_
      have sti := st i hi
      split at sti
      case isFalse => cases sti
      rename_i lenE
      obtain ⟨⟨b, ρ3⟩, q1, q2⟩ := bnd sti
      have kt := evT_ok t _ _ _ q1
      simp only at q2
      refine ⟨_, ρ3, tgc_name lenE hc.2 (by simp), ?_⟩
      cases b with
      | true =>
        rw [if_pos rfl] at q2
        obtain ⟨⟨w, ρ4⟩, q3, q4⟩ := bnd q2
        obtain ⟨d, q5, q6⟩ := mpd q4
        cases hb : bs i with
        | false => rw [hb] at q6; simp only [Bool.false_eq_true, if_false] at q6; cases (congrArg Prod.fst q6)
        | true =>
          rw [hb] at q6
          have z1 : some d = some (dd i) := congrArg Prod.fst q6
          have z2 : ρ4.set j .no = E (i + 1) := congrArg Prod.snd q6
          cases z1
          refine ⟨kt, fun _ => ⟨ρ4, toD_ok (evE_ok e _ _ _ q3) q5, z2 ▸ back_set (.inr trivial)⟩, fun z => nomatch z⟩
      | false =>
        rw [if_neg (by decide)] at q2
        have q2 := Option.some.inj q2
        cases hb : bs i with
        | true => rw [hb] at q2; cases (congrArg Prod.fst q2)
        | false =>
          have z2 : ρ3.set j .no = E (i + 1) := congrArg Prod.snd q2
          exact And.intro kt (And.intro (fun z => absurd z (by decide)) (fun _ => z2 ▸ back_set (.inr trivial)))
    · cases h
  | .lc2 it i j t e, ρ, v, ρ', h => by
    unfold evE at h
    replace h := bnd h; obtain ⟨⟨l, ρ1⟩, h1, h⟩ := h
    split at h
    · rename_i hc
      replace h := mpd h; obtain ⟨⟨ds, ρ2⟩, h2, h⟩ := h
      cases h
      obtain ⟨E, bs, dd, e0, en, ed, st⟩ := lcGo_turns h2
      have hno : ∀ n, n ≤ l.length → ∀ k, k ∈ [i, j] → ∀ e : Ent, (E n)[k]? = some e → e = .no := fun n hi => by
        cases n with
        | zero => rw [e0]; exact fun k m e q => set_no2 m q
        | succ n =>
          have := st n (Nat.lt_of_succ_le hi)
          split at this
          case isFalse => cases this
          obtain ⟨y, _, this⟩ := bnd this
          obtain ⟨⟨b, ρ3⟩, q1, q2⟩ := bnd this
          simp only at q2
          split at q2
          · obtain ⟨⟨w, ρ4⟩, q3, q4⟩ := bnd q2
            obtain ⟨d, q5, q6⟩ := mpd q4
            have z := congrArg Prod.snd q6
            simp only at z
            rw [← z]; exact fun k m e q => set_no2 m q
          · have z := congrArg Prod.snd (Option.some.inj q2)
            simp only at z
            rw [← z]; exact fun k m e q => set_no2 m q
      simp only at ed en
      show EvN g _ ρ ds ρ2
      rw [← en, ed]
      refine en_lc (vs := [i, j]) (ρ1 := (ρ1.set i .no).set j .no) (evI_wk (evI_wk (evI_ok it _ _ _ h1))) E bs dd e0 hc.1 (fun k m => by
        have : k = i ∨ k = j := by simpa using m
        rcases this with rfl | rfl
        · exact hc.2.1.1
        · exact hc.2.1.2) (fun n hi k m => hno n hi k m) fun n hi => ?_
      have sti := st n hi
      split at sti
      case isFalse => cases sti
      rename_i lenE
      obtain ⟨y, ey, sti⟩ := bnd sti
      obtain ⟨⟨b, ρ3⟩, q1, q2⟩ := bnd sti
      have kt := evT_ok t _ _ _ q1
      simp only at q2
      obtain ⟨ya, yb⟩ := y
      rw [two_eq ey]
      refine ⟨_, ρ3, tgc_two lenE.1 lenE.2 hc.2.1.1 hc.2.1.2, ?_⟩
      cases b with
      | true =>
        rw [if_pos rfl] at q2
        obtain ⟨⟨w, ρ4⟩, q3, q4⟩ := bnd q2
        obtain ⟨d, q5, q6⟩ := mpd q4
        cases hb : bs n with
        | false => rw [hb] at q6; simp only [Bool.false_eq_true, if_false] at q6; cases (congrArg Prod.fst q6)
        | true =>
          rw [hb] at q6
          have z1 : some d = some (dd n) := congrArg Prod.fst q6
          have z2 : (ρ4.set i .no).set j .no = E (n + 1) := congrArg Prod.snd q6
          cases z1
          refine ⟨kt, fun _ => ⟨ρ4, toD_ok (evE_ok e _ _ _ q3) q5, z2 ▸ back_set2⟩, fun z => nomatch z⟩
      | false =>
        rw [if_neg (by decide)] at q2
        have q2 := Option.some.inj q2
        cases hb : bs n with
        | true => rw [hb] at q2; cases (congrArg Prod.fst q2)
        | false =>
          have z2 : (ρ3.set i .no).set j .no = E (n + 1) := congrArg Prod.snd q2
          exact And.intro kt (And.intro (fun z => absurd z (by decide)) (fun _ => z2 ▸ back_set2))
    · cases h
  | .callL f i j, ρ, v, ρ', h => by
    unfold evE at h
    replace h := bnd h; obtain ⟨st, h1, h⟩ := h
    replace h := bnd h; obtain ⟨ds, h2, h⟩ := h
    replace h := bnd h; obtain ⟨⟨r, st'⟩, h3, h⟩ := h
    cases r with
    | new w => cases h
    | dat d =>
      simp only at h
      split at h
      · rename_i hc
        cases h
        exact ed_callL (ownL_eq h1) (ownL_eq h2) hc.1 h3 hc.2.1 hc.2.2.1 hc.2.2.2
      · cases h
  | .lrg a, ρ, v, ρ', h => by
    unfold evE at h
    replace h := bnd h; obtain ⟨⟨va, ρ1⟩, h1, h⟩ := h
    replace h := bnd h; obtain ⟨d, hd, h⟩ := h
    replace h := bnd h; obtain ⟨n, hn, h⟩ := h
    cases asI_eq hn
    split at h
    · rename_i hr
      cases h
      have := en_rg1 (toD_ok (evE_ok a _ _ _ h1) hd) (RgOk.of_le (by omega) (by omega) (by omega) (by omega))
      rw [rg_map] at this
      exact this
    · cases h
  | .trg a, ρ, v, ρ', h => by
    unfold evE at h
    replace h := bnd h; obtain ⟨⟨va, ρ1⟩, h1, h⟩ := h
    replace h := bnd h; obtain ⟨d, hd, h⟩ := h
    replace h := bnd h; obtain ⟨n, hn, h⟩ := h
    cases asI_eq hn
    split at h
    · rename_i hr
      cases h
      have := ed_tupRg1 (toD_ok (evE_ok a _ _ _ h1) hd) (RgOk.of_le (by omega) (by omega) (by omega) (by omega))
      rw [rg_map] at this
      exact this
    · cases h
  | .pop i a, ρ, v, ρ', h => by
    unfold evE at h
    replace h := bnd h; obtain ⟨d0, h0, h⟩ := h
    replace h := bnd h; obtain ⟨⟨va, ρ1⟩, h1, h⟩ := h
    replace h := bnd h; obtain ⟨d, hd, h⟩ := h
    replace h := bnd h; obtain ⟨n, hn, h⟩ := h
    replace h := bnd h; obtain ⟨ds, hds, h⟩ := h
    cases asI_eq hn
    split at h
    · rename_i hb
      replace h := bnd h; obtain ⟨j, hj, h⟩ := h
      replace h := mpd h; obtain ⟨x, hx, h⟩ := h
      cases h
      exact ed_popAt (ownL_eq h0) (toD_ok (evE_ok a _ _ _ h1) hd) (ownL_eq hds) hb (ixN_seq hj).1 hx
    · cases h
  | .idxL a b, ρ, v, ρ', h => by
    unfold evE at h
    replace h := bnd h; obtain ⟨⟨va, ρ1⟩, h1, h⟩ := h
    replace h := bnd h; obtain ⟨d, hd, h⟩ := h
    replace h := bnd h; obtain ⟨⟨vb, ρ2⟩, h2, h⟩ := h
    replace h := bnd h; obtain ⟨B, hB, h⟩ := h
    replace h := bnd h; obtain ⟨e, dB, h⟩ := h
    split at h
    · split at h
      · rename_i hs
        replace h := mpd h; obtain ⟨j, hj, h⟩ := h
        cases h
        obtain ⟨z, z1, z2, z3⟩ := idxOf_ok hj
        exact ed_bm (dA := by show (match B.den ρ2, some ([] : List D) with | some d, some ds => some (d :: ds) | _, _ => none) = _; rw [dB]) (toD_ok (evE_ok a _ _ _ h1) hd) (ea_cons (toA_ok (evE_ok b _ _ _ h2) hB) ea_nil) rfl (rm_index hs.1 hs.2 z1 z2 z3)
      · cases h
    · cases h
  | .idxT a b, ρ, v, ρ', h => by
    unfold evE at h
    replace h := bnd h; obtain ⟨⟨va, ρ1⟩, h1, h⟩ := h
    replace h := bnd h; obtain ⟨d, hd, h⟩ := h
    replace h := bnd h; obtain ⟨⟨vb, ρ2⟩, h2, h⟩ := h
    replace h := bnd h; obtain ⟨B, hB, h⟩ := h
    replace h := bnd h; obtain ⟨e, dB, h⟩ := h
    split at h
    · replace h := bnd h; obtain ⟨xs, hx, h⟩ := h
      replace h := mpd h; obtain ⟨j, hj, h⟩ := h
      cases h
      cases strsOf_eq hx
      obtain ⟨z1, z2⟩ := idxS_ok hj
      exact ed_bmX (dA := by show (match B.den ρ2, some ([] : List D) with | some d, some ds => some (d :: ds) | _, _ => none) = _; rw [dB]) (toD_ok (evE_ok a _ _ _ h1) hd) (ea_cons (toA_ok (evE_ok b _ _ _ h2) hB) ea_nil) (rm_tix z1 z2)
    · cases h
  | .dget i a, ρ, v, ρ', h => by
    unfold evE at h
    replace h := bnd h; obtain ⟨d0, h0, h⟩ := h
    replace h := bnd h; obtain ⟨⟨va, ρ1⟩, h1, h⟩ := h
    replace h := bnd h; obtain ⟨d, hd, h⟩ := h
    replace h := bnd h; obtain ⟨k, hk, h⟩ := h
    replace h := bnd h; obtain ⟨kvs, hv, h⟩ := h
    replace h := mpd h; obtain ⟨x, hx, h⟩ := h
    cases h
    cases keyD_eq hk
    exact ed_dget (ownD_eq h0) (toD_ok (evE_ok a _ _ _ h1) hd) (ownD_eq hv) hx
  | .din a i, ρ, v, ρ', h => by
    unfold evE at h
    replace h := bnd h; obtain ⟨⟨va, ρ1⟩, h1, h⟩ := h
    replace h := bnd h; obtain ⟨d, hd, h⟩ := h
    replace h := bnd h; obtain ⟨k, hk, h⟩ := h
    replace h := mpd h; obtain ⟨kvs, hv, h⟩ := h
    cases h
    cases keyD_eq hk
    exact ed_din (toD_ok (evE_ok a _ _ _ h1) hd) (ownD_eq hv)
  | .dnin a i, ρ, v, ρ', h => by
    unfold evE at h
    replace h := bnd h; obtain ⟨⟨va, ρ1⟩, h1, h⟩ := h
    replace h := bnd h; obtain ⟨d, hd, h⟩ := h
    replace h := bnd h; obtain ⟨k, hk, h⟩ := h
    replace h := mpd h; obtain ⟨kvs, hv, h⟩ := h
    cases h
    cases keyD_eq hk
    exact ed_dnotin (toD_ok (evE_ok a _ _ _ h1) hd) (ownD_eq hv)
  | .dset i a b, ρ, v, ρ', h => by
    unfold evE at h
    replace h := bnd h; obtain ⟨d0, h0, h⟩ := h
    replace h := bnd h; obtain ⟨⟨va, ρ1⟩, h1, h⟩ := h
    replace h := bnd h; obtain ⟨d, hd, h⟩ := h
    replace h := bnd h; obtain ⟨k, hk, h⟩ := h
    replace h := bnd h; obtain ⟨⟨vb, ρ2⟩, h2, h⟩ := h
    replace h := bnd h; obtain ⟨e, he, h⟩ := h
    replace h := bnd h; obtain ⟨kvs, hv, h⟩ := h
    split at h
    · cases h
      cases keyD_eq hk
      exact ed_setd (ownD_eq h0) (toD_ok (evE_ok a _ _ _ h1) hd) (toD_ok (evE_ok b _ _ _ h2) he) (ownD_eq hv) ‹_›
    · cases h
  | .dinD a b, ρ, v, ρ', h => by
    unfold evE at h
    replace h := bnd h; obtain ⟨⟨va, ρ1⟩, h1, h⟩ := h
    replace h := bnd h; obtain ⟨d, hd, h⟩ := h
    replace h := bnd h; obtain ⟨k, hk, h⟩ := h
    replace h := bnd h; obtain ⟨⟨vb, ρ2⟩, h2, h⟩ := h
    replace h := bnd h; obtain ⟨e, he, h⟩ := h
    replace h := mpd h; obtain ⟨kvs, hv, h⟩ := h
    cases h
    cases keyD_eq hk
    exact ed_dinD (toD_ok (evE_ok a _ _ _ h1) hd) (toD_ok (evE_ok b _ _ _ h2) he) hv
  | .dninD a b, ρ, v, ρ', h => by
    unfold evE at h
    replace h := bnd h; obtain ⟨⟨va, ρ1⟩, h1, h⟩ := h
    replace h := bnd h; obtain ⟨d, hd, h⟩ := h
    replace h := bnd h; obtain ⟨k, hk, h⟩ := h
    replace h := bnd h; obtain ⟨⟨vb, ρ2⟩, h2, h⟩ := h
    replace h := bnd h; obtain ⟨e, he, h⟩ := h
    replace h := mpd h; obtain ⟨kvs, hv, h⟩ := h
    cases h
    cases keyD_eq hk
    exact ed_dninD (toD_ok (evE_ok a _ _ _ h1) hd) (toD_ok (evE_ok b _ _ _ h2) he) hv
  | .dgetD a b, ρ, v, ρ', h => by
    unfold evE at h
    replace h := bnd h; obtain ⟨⟨va, ρ1⟩, h1, h⟩ := h
    replace h := bnd h; obtain ⟨d, hd, h⟩ := h
    replace h := bnd h; obtain ⟨kvs, hv, h⟩ := h
    replace h := bnd h; obtain ⟨⟨vb, ρ2⟩, h2, h⟩ := h
    replace h := bnd h; obtain ⟨e, he, h⟩ := h
    replace h := bnd h; obtain ⟨k, hk, h⟩ := h
    replace h := mpd h; obtain ⟨z, hz, h⟩ := h
    cases h
    cases keyD_eq hk
    exact ed_dgetD (toD_ok (evE_ok a _ _ _ h1) hd) (toD_ok (evE_ok b _ _ _ h2) he) hv hz
  | .fnv a, ρ, v, ρ', h => by cases h; exact ed_fn
  | .callF i tbl as, ρ, v, ρ', h => by
    unfold evE at h
    replace h := bnd h; obtain ⟨d0, h0, h⟩ := h
    replace h := bnd h; obtain ⟨a, hA, h⟩ := h
    replace h := bnd h; obtain ⟨f, hf, h⟩ := h
    replace h := bnd h; obtain ⟨⟨As, ρ1⟩, h1, h⟩ := h
    replace h := bnd h; obtain ⟨ds, hd, h⟩ := h
    replace h := mpd h; obtain ⟨r, hr, h⟩ := h
    cases h
    have h0' := datV_eq h0
    rw [asFn_eq hA] at h0'
    cases r with
    | dat d => exact ed_callF h0' hf (evA_ok as _ _ _ h1) hr hd
    | new w => exact ew_callF h0' hf (evA_ok as _ _ _ h1) hr hd
  | .callE e tbl as, ρ, v, ρ', h => by
    unfold evE at h
    replace h := bnd h; obtain ⟨⟨va, ρ1⟩, h1, h⟩ := h
    replace h := bnd h; obtain ⟨d0, hd0, h⟩ := h
    replace h := bnd h; obtain ⟨a, hA, h⟩ := h
    replace h := bnd h; obtain ⟨f, hf, h⟩ := h
    replace h := bnd h; obtain ⟨⟨As, ρ2⟩, h2, h⟩ := h
    replace h := bnd h; obtain ⟨ds, hd, h⟩ := h
    replace h := mpd h; obtain ⟨r, hr, h⟩ := h
    cases h
    cases asFn_eq hA
    cases r with
    | dat d => exact ed_callE (toD_ok (evE_ok e _ _ _ h1) hd0) hf (evA_ok as _ _ _ h2) hr hd
    | new w => exact ew_callE (toD_ok (evE_ok e _ _ _ h1) hd0) hf (evA_ok as _ _ _ h2) hr hd
  | .isaT a Ts, ρ, v, ρ', h => by
    unfold evE at h
    split at h
    case isFalse => cases h
    rename_i hl
    replace h := bnd h; obtain ⟨⟨va, ρ1⟩, h1, h⟩ := h
    replace h := bnd h; obtain ⟨A, hA, h⟩ := h
    replace h := bnd h; obtain ⟨d, dA, h⟩ := h
    replace h := mpd h; obtain ⟨b, hb, h⟩ := h
    cases h
    exact ed_isaT (toA_ok (evE_ok a _ _ _ h1) hA) dA hb hl
  | .dspb kx n, ρ, v, ρ', h => by
    unfold evE at h
    replace h := bnd h; obtain ⟨d, hd, h⟩ := h
    replace h := mpd h; obtain ⟨q, hq, h⟩ := h
    cases h
    have e1 := keyD_eq hq
    subst e1
    exact ew_dispb (evK_ok hd)
  | .dsp kx n, ρ, v, ρ', h => by
    unfold evE at h
    replace h := bnd h; obtain ⟨d, hd, h⟩ := h
    replace h := mpd h; obtain ⟨q, hq, h⟩ := h
    cases h
    have e1 := keyD_eq hq
    subst e1
    exact ew_disp1 (evK_ok hd)
  | .srs a, ρ, v, ρ', h => by
    unfold evE at h
    replace h := bnd h; obtain ⟨⟨va, ρ1⟩, h1, h⟩ := h
    replace h := bnd h; obtain ⟨d, hd, h⟩ := h
    cases d with
    | tuple ds =>
      replace h := mpd h; obtain ⟨zs, hz, h⟩ := h
      cases h
      replace hz := bnd hz; obtain ⟨ns, hn, hz⟩ := hz
      cases insD_eq hn
      split at hz
      · rename_i y
        obtain ⟨y1, y2, y3, y4⟩ := y
        cases hz
        exact fun c F H σ k s Q q w => en_srtSet (w := w) (toD_ok (evE_ok a _ _ _ h1) hd) y1 y2 (fun k => ⟨y3 k, y4 k⟩) c F H σ k s Q q
      · cases hz
    | _ => cases h
  | .revT a, ρ, v, ρ', h => by
    unfold evE at h
    replace h := bnd h; obtain ⟨⟨va, ρ1⟩, h1, h⟩ := h
    replace h := bnd h; obtain ⟨d, hd, h⟩ := h
    cases d with
    | tuple ds =>
      cases h
      exact ed_revT (toD_ok (evE_ok a _ _ _ h1) hd)
    | _ => cases h
  | .revL a, ρ, v, ρ', h => by
    unfold evE at h
    replace h := bnd h; obtain ⟨⟨va, ρ1⟩, h1, h⟩ := h
    replace h := bnd h; obtain ⟨A, hA, h⟩ := h
    replace h := bnd h; obtain ⟨d, hd, h⟩ := h
    cases d with
    | list ds =>
      cases h
      exact en_revL (toA_ok (evE_ok a _ _ _ h1) hA) hd
    | _ => cases h
  | .sw e a b, ρ, v, ρ', h => by
    unfold evE at h
    replace h := bnd h; obtain ⟨⟨va, ρ1⟩, h1, h⟩ := h
    replace h := bnd h; obtain ⟨d, hd, h⟩ := h
    replace h := bnd h; obtain ⟨⟨vb, ρ2⟩, h2, h⟩ := h
    replace h := bnd h; obtain ⟨x, hx, h⟩ := h
    cases d with
    | str y =>
      cases x with
      | str z =>
        cases h
        exact ed_bm (toD_ok (evE_ok a _ _ _ h1) hd) (ea_cons (eo_of (toD_ok (evE_ok b _ _ _ h2) hx)) ea_nil) (by first | rfl | trivial | exact .inr rfl) rm_sw
      | _ => cases h
    | _ => cases h
  | .allIn cs a, ρ, v, ρ', h => by
    unfold evE at h
    replace h := bnd h; obtain ⟨⟨va, ρ1⟩, h1, h⟩ := h
    replace h := bnd h; obtain ⟨d, hd, h⟩ := h
    cases d with
    | str y => cases h; exact ed_allIn (toD_ok (evE_ok a _ _ _ h1) hd)
    | _ => cases h
  | .inC n xs a, ρ, v, ρ', h => by
    unfold evE at h
    replace h := bnd h; obtain ⟨⟨va, ρ1⟩, h1, h⟩ := h
    replace h := bnd h; obtain ⟨d, hd, h⟩ := h
    cases d with
    | str y => cases h; exact ed_inC (toD_ok (evE_ok a _ _ _ h1) hd)
    | _ => cases h
  | .isB n b a, ρ, v, ρ', h => by
    unfold evE at h
    replace h := bnd h; obtain ⟨⟨va, ρ1⟩, h1, h⟩ := h
    replace h := bnd h; obtain ⟨d, hd, h⟩ := h
    replace h := mpd h; obtain ⟨x, hx, h⟩ := h
    cases h
    cases asB_eq hx
    exact ed_op (eo_of (toD_ok (evE_ok a _ _ _ h1) hd)) (eo_of ed_bl) r2_isBl
  | .lget i a, ρ, v, ρ', h => by
    unfold evE at h
    replace h := bnd h; obtain ⟨d0, h0, h⟩ := h
    replace h := bnd h; obtain ⟨⟨va, ρ1⟩, h1, h⟩ := h
    replace h := bnd h; obtain ⟨d, hd, h⟩ := h
    replace h := bnd h; obtain ⟨k, hk, h⟩ := h
    replace h := bnd h; obtain ⟨kvs, hv, h⟩ := h
    replace h := mpd h; obtain ⟨x, hx, h⟩ := h
    cases h
    cases keyD_eq hk
    exact ed_lget (ownF_eq h0) (toD_ok (evE_ok a _ _ _ h1) hd) (ownF_eq hv) hx
  | .dget2 i a b, ρ, v, ρ', h => by
    unfold evE at h
    replace h := bnd h; obtain ⟨d0, h0, h⟩ := h
    replace h := bnd h; obtain ⟨⟨va, ρ1⟩, h1, h⟩ := h
    replace h := bnd h; obtain ⟨d, hd, h⟩ := h
    replace h := bnd h; obtain ⟨k, hk, h⟩ := h
    replace h := bnd h; obtain ⟨⟨vb, ρ2⟩, h2, h⟩ := h
    replace h := bnd h; obtain ⟨z, hz, h⟩ := h
    replace h := mpd h; obtain ⟨kvs, hv, h⟩ := h
    cases h
    cases keyD_eq hk
    exact ed_dget2 (ownD_eq h0) (toD_ok (evE_ok a _ _ _ h1) hd) (toD_ok (evE_ok b _ _ _ h2) hz) (ownD_eq hv)
  | .callX f as, ρ, v, ρ', h => by
    unfold evE at h
    replace h := bnd h; obtain ⟨⟨As, ρ1⟩, h1, h⟩ := h
    replace h := bnd h; obtain ⟨ds, hd, h⟩ := h
    replace h := bnd h; obtain ⟨r, hr, h⟩ := h
    cases r with
    | ok r =>
      cases r with
      | dat d =>
        cases h
        exact ed_callX (R := fun ds r => f ds = some r) (evA_ok as _ _ _ h1) hr hd
      | new w => cases h
    | exc C => cases h
theorem evA_ok : ∀ (e : Exs) (ρ : Rho) (As : List DL.Arg) (ρ' : Rho), evA g.ps e ρ = some (As, ρ') → EvA g (denA g.K g.xe e) ρ As ρ'
  | .nil, ρ, As, ρ', h => by cases h; exact ea_nil
  | .cons a as, ρ, As, ρ', h => by
    unfold evA at h
    replace h := bnd h; obtain ⟨⟨va, ρ1⟩, h1, h⟩ := h
    replace h := bnd h; obtain ⟨A, hA, h⟩ := h
    replace h := mpd h; obtain ⟨⟨Bs, ρ2⟩, h2, h⟩ := h
    cases h
    exact ea_cons (toA_ok (evE_ok a _ _ _ h1) hA) (evA_ok as _ _ _ h2)
theorem evT_ok : ∀ (e : Tx) (ρ : Rho) (b : Bool) (ρ' : Rho), evT g.ps e ρ = some (b, ρ') → EvT g (denT g.K g.xe e) ρ b ρ'
  | .te a, ρ, b, ρ', h => by
    unfold evT at h
    replace h := bnd h; obtain ⟨⟨va, ρ1⟩, h1, h⟩ := h
    replace h := bnd h; obtain ⟨d, hd, h⟩ := h
    replace h := mpd h; obtain ⟨x, hx, h⟩ := h
    cases h
    cases asB_eq hx
    exact et_test (toD_ok (evE_ok a _ _ _ h1) hd)
  | .tb a, ρ, b, ρ', h => by
    unfold evT at h
    replace h := bnd h; obtain ⟨⟨va, ρ1⟩, h1, h⟩ := h
    replace h := bnd h; obtain ⟨d, hd, h⟩ := h
    replace h := mpd h; obtain ⟨x, hx, h⟩ := h
    cases h
    cases asB_eq hx
    exact et_B (toD_ok (evE_ok a _ _ _ h1) hd)
  | .nt t, ρ, b, ρ', h => by
    unfold evT at h
    replace h := mpd h; obtain ⟨⟨x, ρ1⟩, h1, h⟩ := h
    cases h
    exact et_not (evT_ok t _ _ _ h1)
  | .an t u, ρ, b, ρ', h => by
    unfold evT at h
    replace h := bnd h; obtain ⟨⟨x, ρ1⟩, h1, h⟩ := h
    cases x with
    | true =>
      simp only [if_true] at h
      exact et_andT (evT_ok t _ _ _ h1) (evT_ok u _ _ _ h)
    | false =>
      simp only [Bool.false_eq_true, if_false] at h
      cases h
      exact et_andF (evT_ok t _ _ _ h1)
  | .or t u, ρ, b, ρ', h => by
    unfold evT at h
    replace h := bnd h; obtain ⟨⟨x, ρ1⟩, h1, h⟩ := h
    cases x with
    | true =>
      simp only [if_true] at h
      cases h
      exact et_orT (evT_ok t _ _ _ h1)
    | false =>
      simp only [Bool.false_eq_true, if_false] at h
      exact et_orF (evT_ok t _ _ _ h1) (evT_ok u _ _ _ h)
  | .yes, ρ, b, ρ', h => by cases h; exact et_yes'
  | .lend t, ρ, b, ρ', h => by
    unfold evT at h
    replace h := mpd h; obtain ⟨⟨x, ρ1⟩, h1, h⟩ := h
    cases h
    exact et_lend (evT_ok t _ _ _ h1)
  | .tl a, ρ, b, ρ', h => by
    unfold evT at h
    replace h := bnd h; obtain ⟨⟨va, ρ1⟩, h1, h⟩ := h
    replace h := bnd h; obtain ⟨A, hA, h⟩ := h
    replace h := bnd h; obtain ⟨d, hd, h⟩ := h
    cases d with
    | list ds =>
      cases h
      exact et_tru (toA_ok (evE_ok a _ _ _ h1) hA) hd
    | _ => cases h
theorem evP_ok : ∀ (e : Px) (ρ : Rho) (b : Option Int) (ρ' : Rho), evP g.ps e ρ = some (b, ρ') → EvP g (denP g.K g.xe e) ρ b ρ'
  | .no, ρ, b, ρ', h => by cases h; exact ep_no
  | .at a, ρ, b, ρ', h => by
    unfold evP at h
    replace h := bnd h; obtain ⟨⟨va, ρ1⟩, h1, h⟩ := h
    replace h := bnd h; obtain ⟨d, hd, h⟩ := h
    replace h := mpd h; obtain ⟨x, hx, h⟩ := h
    cases h
    cases asI_eq hx
    exact ep_some (toD_ok (evE_ok a _ _ _ h1) hd)
theorem evI_ok : ∀ (e : Ix) (ρ : Rho) (l : List D) (ρ' : Rho), evI g.ps e ρ = some (l, ρ') → EvI g (denI g.K g.xe e) ρ l.length (nthD l) ρ'
  | .rng1 a, ρ, l, ρ', h => by
    unfold evI at h
    replace h := bnd h; obtain ⟨⟨va, ρ1⟩, h1, h⟩ := h
    replace h := bnd h; obtain ⟨d, hd, h⟩ := h
    replace h := bnd h; obtain ⟨n, hn, h⟩ := h
    cases asI_eq hn
    split at h
    · rename_i hb
      cases h
      rw [rgD_len]
      exact evI_congr (ei_rng1 (ea_cons (eo_of (toD_ok (evE_ok a _ _ _ h1) hd)) ea_nil) rfl hb) fun i hi => (rgD_at hi).symm
    · cases h
  | .rng2 a b, ρ, l, ρ', h => by
    unfold evI at h
    replace h := bnd h; obtain ⟨⟨va, ρ1⟩, h1, h⟩ := h
    replace h := bnd h; obtain ⟨d, hd, h⟩ := h
    replace h := bnd h; obtain ⟨m, hm, h⟩ := h
    replace h := bnd h; obtain ⟨⟨vb, ρ2⟩, h2, h⟩ := h
    replace h := bnd h; obtain ⟨e, he, h⟩ := h
    replace h := bnd h; obtain ⟨n, hn, h⟩ := h
    cases asI_eq hm
    cases asI_eq hn
    split at h
    · rename_i hb
      cases h
      rw [rgD_len]
      exact evI_congr (ei_rng2 (ea_cons (eo_of (toD_ok (evE_ok a _ _ _ h1) hd)) (ea_cons (eo_of (toD_ok (evE_ok b _ _ _ h2) he)) ea_nil)) rfl rfl hb) fun i hi => (rgD_at hi).symm
    · cases h
  | .rng3 a b c, ρ, l, ρ', h => by
    unfold evI at h
    replace h := bnd h; obtain ⟨⟨va, ρ1⟩, h1, h⟩ := h
    replace h := bnd h; obtain ⟨d, hd, h⟩ := h
    replace h := bnd h; obtain ⟨m, hm, h⟩ := h
    replace h := bnd h; obtain ⟨⟨vb, ρ2⟩, h2, h⟩ := h
    replace h := bnd h; obtain ⟨e, he, h⟩ := h
    replace h := bnd h; obtain ⟨n, hn, h⟩ := h
    replace h := bnd h; obtain ⟨⟨vc, ρ3⟩, h3, h⟩ := h
    replace h := bnd h; obtain ⟨f, hf, h⟩ := h
    replace h := bnd h; obtain ⟨o, ho, h⟩ := h
    cases asI_eq hm
    cases asI_eq hn
    cases asI_eq ho
    split at h
    · rename_i hb
      obtain ⟨ho, hb⟩ := hb
      subst ho
      cases h
      rw [rdD_len]
      exact evI_congr (ei_rngN (ea_cons (eo_of (toD_ok (evE_ok a _ _ _ h1) hd)) (ea_cons (eo_of (toD_ok (evE_ok b _ _ _ h2) he)) (ea_cons (eo_of (toD_ok (evE_ok c _ _ _ h3) hf)) ea_nil))) rfl rfl rfl hb) fun i hi => (rdD_at hi).symm
    · cases h
  | .u a, ρ, l, ρ', h => by
    unfold evI at h
    replace h := bnd h; obtain ⟨⟨va, ρ1⟩, h1, h⟩ := h
    replace h := bnd h; obtain ⟨d, hd, h⟩ := h
    split at h
    · cases h
      exact ei_uL (toD_ok (evE_ok a _ _ _ h1) hd)
    · cases h
      exact ei_uT (toD_ok (evE_ok a _ _ _ h1) hd)
    · cases h
  | .en a, ρ, l, ρ', h => by
    unfold evI at h
    replace h := bnd h; obtain ⟨⟨va, ρ1⟩, h1, h⟩ := h
    replace h := bnd h; obtain ⟨d, hd, h⟩ := h
    split at h
    · cases h
      rw [enD_len]
      exact evI_congr (ei_enT (toD_ok (evE_ok a _ _ _ h1) hd)) fun i hi => (enD_at hi).symm
    · cases h
  | .enl a, ρ, l, ρ', h => by
    unfold evI at h
    replace h := bnd h; obtain ⟨⟨va, ρ1⟩, h1, h⟩ := h
    replace h := bnd h; obtain ⟨d, hd, h⟩ := h
    split at h
    · cases h
      rw [enD_len]
      exact evI_congr (ei_enL (toD_ok (evE_ok a _ _ _ h1) hd)) fun i hi => (enD_at hi).symm
    · cases h
  | .ky i, ρ, l, ρ', h => by
    unfold evI at h
    replace h := mpd h; obtain ⟨kvs, hv, h⟩ := h
    cases h
    exact ei_keys (ownF_eq hv)
  | .ukd a, ρ, l, ρ', h => by
    unfold evI at h
    replace h := bnd h; obtain ⟨⟨va, ρ1⟩, h1, h⟩ := h
    replace h := mpd h; obtain ⟨kvs, hv, h⟩ := h
    cases h
    have k := evE_ok a _ _ _ h1
    cases va with
    | w w =>
      cases w with
      | dK kvs' => cases hv; exact ei_newK k
      | _ => cases hv
    | _ => cases hv
end
end EV
namespace EV
open PySem PySem.Spec PyProof.Rows L2 DL
variable [DL.TabC]
variable {K : PySem.W.Frag} {g : Gm}
mutual
theorem setG_ok : ∀ (t : Tg) (d : D) (ρ ρ' : Rho), setG g.ps t d ρ = some ρ' → DL.Tg g (denG g.K t) d ρ ρ'
  | .nm i, d, ρ, ρ', h => by
    unfold setG at h
    split at h
    · rename_i hh
      cases h
      exact tg_name hh.1 hh.2
    · cases h
  | .tup n ts, d, ρ, ρ', h => by
    cases d with
    | tuple ds =>
      unfold setG at h
      split at h
      · exact tg_tup (setGs_ok ts ds _ _ h) ‹_›
      · cases h
    | _ => simp [setG] at h
theorem setGs_ok : ∀ (t : Tgs) (ds : List D) (ρ ρ' : Rho), setGs g.ps t ds ρ = some ρ' → DL.Tgs g (denGs g.K t) ds ρ ρ'
  | .nil, ds, ρ, ρ', h => by
    cases ds with
    | nil => simp [setGs] at h; subst h; exact tgs_nil
    | cons d ds => simp [setGs] at h
  | .cons t ts, ds, ρ, ρ', h => by
    cases ds with
    | nil => simp [setGs] at h
    | cons d ds =>
      unfold setGs at h
      replace h := bnd h; obtain ⟨ρ1, h1, h⟩ := h
      exact tgs_cons (setG_ok t d _ _ h1) (setGs_ok ts ds _ _ h)
end
theorem sv_retL {te : TE} {ρ ρ1 : Rho} {ds : List D} {i : Nat} {P : Out → Prop} (he : EvO g te ρ (.o i) ρ1) (hi : ρ1[i]? = some (.own (.lst ds))) (hp : i ∉ g.ps) (h : P (.rt (ρ1.set i .no) (.new (.lst ds)))) : Sv g (tRet te) ρ P := fun c F H σ E k s p => by
  refine he c F H σ k.ok s _ fun v F1 H1 s1 e1 x => ?_
  have q : σ[i]? = some (some v) := by cases x with | o x => exact x
  have := sv_retOwn (g := g) (i := i) hi h hp c F1 H1 σ E k s1 (p.up e1)
  obtain ⟨v', q1, q2⟩ := this
  rw [q] at q1
  cases q1
  exact q2
theorem retO_ok {te : TE} {ρ ρ1 : Rho} {v : Vl} {o : Out} (k : EvV g te ρ v ρ1) (h : retO g.ps ρ1 v = some o) : Sv g (tRet te) ρ (fun o' => o' = o) := by
  cases v with
  | d x => cases h; exact sv_ret k rfl
  | n ds => cases h; exact sv_retN k rfl
  | w w => cases h; exact sv_retW k rfl
  | o i =>
    change (ownL ρ1 i).bind _ = _ at h
    replace h := bnd h; obtain ⟨ds, hds, h⟩ := h
    split at h
    · cases h; exact sv_retL k (ownL_eq hds) ‹_› rfl
    · cases h
def RTx (g : Gm) (ES : L2.St → XK) (te : TE) (ρ : Rho) : (Vl × Rho) ⊕ (Addr × Rho) → Prop
  | .inl p => EvV g te ρ p.1 p.2
  | .inr q => EvX g ES te ρ q.1 q.2
theorem evR_ok {ES : L2.St → XK} : ∀ (e : RE) (ρ : Rho) (r : (Vl × Rho) ⊕ (Addr × Rho)), evR g.ps e ρ = some r → RTx g ES (denR g.K g.xe ES e) ρ r
  | .x f as, ρ, r, h => by
    unfold evR at h
    replace h := bnd h; obtain ⟨⟨As, ρ1⟩, h1, h⟩ := h
    replace h := bnd h; obtain ⟨ds, hd, h⟩ := h
    replace h := bnd h; obtain ⟨z, hz, h⟩ := h
    cases z with
    | ok z =>
      cases z with
      | dat d =>
        cases h
        exact ed_callXS (R := fun ds r => f ds = some r) (evA_ok as _ _ _ h1) hz hd
      | new w => cases h
    | exc C =>
      cases h
      exact ex_callXS (R := fun ds r => f ds = some r) (evA_ok as _ _ _ h1) hz hd
  | .call f a, ρ, r, h => by
    unfold evR at h
    replace h := bnd h; obtain ⟨z, h1, h⟩ := h
    have k := evR_ok (ES := ES) a _ _ h1
    cases z with
    | inl p =>
      replace h := bnd h; obtain ⟨A, hA, h⟩ := h
      replace h := bnd h; obtain ⟨ds, hd, h⟩ := h
      replace h := mpd h; obtain ⟨y, hy, h⟩ := h
      cases h
      have ka : EvA g (tCons (denR g.K g.xe ES a) tNil) ρ [A] p.2 := ea_cons (toA_ok k hA) ea_nil
      cases y with
      | dat d => exact ed_call (R := fun ds r => f ds = some r) ka hy hd
      | new w => exact ew_call (R := fun ds r => f ds = some r) ka hy hd
    | inr q =>
      cases h
      exact ex_arg k
  | .lst a, ρ, r, h => by
    unfold evR at h
    replace h := bnd h; obtain ⟨z, h1, h⟩ := h
    have k := evR_ok (ES := ES) a _ _ h1
    cases z with
    | inl p =>
      replace h := bnd h; obtain ⟨A, hA, h⟩ := h
      replace h := bnd h; obtain ⟨ds, hd, h⟩ := h
      split at h
      · cases h
        exact en_lst (ea_cons (toA_ok k hA) ea_nil) hd ‹_›
      · cases h
    | inr q =>
      cases h
      exact ex_lst k
  | .e e, ρ, r, h => by
    unfold evR at h
    replace h := mpd h; obtain ⟨p, h1, h⟩ := h
    cases h
    exact evE_ok e _ _ _ h1
theorem tC_d {v : V} {d : D} {ρ : Rho} (h : ∀ F : Hp, Dx g.K F v d) : EvD g (tC v) ρ d ρ := fun c F H σ k s Q q => q v F H s (Same.refl _) (by rw [show c.K = g.K from k.1]; exact h F)
/-- a clause, told -/
theorem he_ok {S C a : Addr} {cs : List Addr} {i : Nat} {ρ : Rho} (hk : KsOk g.K S cs) (m : C ∈ cs) (h : ρ[i]? = some (.dat (fnD a))) : ∀ {x : Hx}, (∀ c ∈ hxN x, c = S ∨ c ∈ cs) → hxL x = true → EvD g (denHe g.K i a (.ref C) none x) ρ (evHx S C x) ρ
  | .tst t, hn, hl => ed_z hk m h hn hl
  | .pick x y t, hn, hl => by
    have hz := ed_z hk m h hn hl
    have e1 : EvN g (tLst (tCons (tC (.str x)) (tCons (tC (.str y)) tNil))) ρ [.str x, .str y] ρ := en_lst (ea_cons (eo_of (tC_d fun _ => .str x)) (ea_cons (eo_of (tC_d fun _ => .str y)) ea_nil)) rfl (show 2 ≤ sizeLine by decide)
    have e2 : EvD g (tCB (bfK g.K .int) (tCons (denZ g.K i a (.ref C) none t) tNil)) ρ (.int (if evZ S C t then 1 else 0)) ρ :=
      ed_cb (ea_cons (eo_of hz) ea_nil) (cb1_ok (K := g.K) .int [.bool (evZ S C t)] _ rfl)
    have e3 : op2 .ix (.list [.str x, .str y]) (.int (if evZ S C t then 1 else 0)) = some (.d (.str (if evZ S C t then y else x))) := by cases evZ S C t <;> rfl
    exact ed_op (toA_ok (v := .n [.str x, .str y]) e1 rfl) (eo_of e2) (op2_ok (K := g.K) .ix _ _ _ e3)
  | .pair x t, hn, hl => ed_tup (ea_cons (eo_of (tC_d fun _ => .str x)) (ea_cons (eo_of (ed_z hk m h hn hl)) ea_nil)) rfl (show 2 ≤ sizeLine by decide)
  | .non, _, _ => tC_d fun _ => .non
  | .bl b, _, _ => tC_d fun _ => .bl b
  | .int n, _, _ => tC_d fun _ => .int n
  | .str x, _, _ => tC_d fun _ => .str x
theorem nmd_lands {S C : Addr} {cs : List Addr} {i : Nat} {c : Cc} {F F' H' : Hp} {σ : L2.St} {ρ' : Rho} {Dn : Ends} {P : Out → Prop} {d : D} (hk : KsOk g.K S cs) (m : C ∈ cs) (k : c.okS g) (hi : i < ρ'.length) (hp : i ∉ g.ps) (p : Post g c Dn F P) (hP : P (.rt (ρ'.set i .no) (.dat d))) (s : Sim c F' H' σ ρ') (e : Same F F') :
    ∀ {hs : List (Addr × Hx)}, (∀ h ∈ hs, (∀ c ∈ h.1 :: hxN h.2, c = S ∨ c ∈ cs) ∧ hxL h.2 = true) → evHs S C hs = some d → wNmd g.K i (fun _ _ _ _ => False) Dn (hs.map fun h => (.ref h.1, denHx g.K i h.2)) (.ref C) none σ H'
  | [], _, z => nomatch z
  | h :: r, hh, z => by
    obtain ⟨hn, hl⟩ := hh h List.mem_cons_self
    refine ⟨_, ks_exm hk m (hn _ List.mem_cons_self), ?_⟩
    unfold evHs at z
    cases q : sub S C h.1 with
    | false =>
      rw [q] at z
      rw [if_neg (by decide)]
      exact nmd_lands hk m k hi hp p hP s e (fun h2 m2 => hh h2 (List.mem_cons_of_mem _ m2)) z
    | true =>
      rw [q, if_pos rfl] at z
      cases z
      rw [if_pos rfl]
      intro a na
      have s2 : Sim c F' H' (σ.set i (some (.ref a))) (ρ'.set i (.dat (fnD a))) := s.setDat (.fn a) hi fun b mb => hp (by rw [← k.ok.2]; exact List.mem_map.mpr ⟨_, mb, rfl⟩)
      refine he_ok hk m (List.getElem?_set_self hi) (fun c mc => hn c (List.mem_cons_of_mem _ mc)) hl c F' H' _ k.ok s2 _ fun v F2 H2 s3 e3 x => ?_
      refine p.rt _ F2 H2 _ v _ hP (s3.weak (by simp) fun j => ?_) (e.trans e3) x
      by_cases y : j = i
      · subst y
        refine .inr fun en ee => ?_
        rw [List.getElem?_set_self hi] at ee
        cases ee
        rfl
      · left
        rw [List.getElem?_set_ne (Ne.symm y), List.getElem?_set_ne (Ne.symm y)]
theorem evB_ok {ES : L2.St → XK} : ∀ (b : TB) (ρ : Rho) (o : Out), evB g.ps b ρ = some o → ∀ (c : Cc) (F H : Hp) (σ : L2.St) (Dn : Ends), c.okS g → Sim c F H σ ρ →
    (∀ ρ' F' H' σ', o = .nx ρ' → Sim c F' H' σ' ρ' → Same F F' → Dn.nx σ' H') →
    (∀ ρ' F' H' σ' v r, o = .rt ρ' r → Sim c F' H' σ' ρ' → Same F F' → RetOk c F' H' v r → Dn.rt v H') → (∀ C ρ' F' H' σ', o = .ex C ρ' → Sim c F' H' σ' ρ' → Same F F' → ES σ' (.ref C) none H') → denB g.K g.xe ES b Dn σ H
  | .ret e, ρ, o, h, c, F, H, σ, Dn, k, s, pn, pr, px => by
    unfold evB at h
    replace h := bnd h; obtain ⟨z, h1, h⟩ := h
    have q := evR_ok (ES := ES) e _ _ h1
    cases z with
    | inl p =>
      have notR : ∀ {o' : Out}, retO g.ps p.2 p.1 = some o' → ∃ ρ' r, o' = .rt ρ' r := fun {o'} z => by
        obtain ⟨v, ρ1⟩ := p
        cases v with
        | d x => cases z; exact ⟨_, _, rfl⟩
        | n ds => cases z; exact ⟨_, _, rfl⟩
        | w w => cases z; exact ⟨_, _, rfl⟩
        | o i =>
          change (ownL ρ1 i).bind _ = _ at z
          replace z := bnd z; obtain ⟨ds, _, z⟩ := z
          split at z
          · cases z; exact ⟨_, _, rfl⟩
          · cases z
      obtain ⟨ρ0, r0, rfl⟩ := notR h
      refine retO_ok q h c F H σ Dn k s ⟨?_, ?_, ?_, ?_, ?_⟩
      · intro _ _ _ _ z; cases z
      · intro ρ' F' H' σ' v r z a b d
        exact pr ρ' F' H' σ' v r z.symm a b d
      · intro _ _ _ _ z; cases z
      · intro _ _ _ _ z; cases z
      · intro _ _ _ _ _ z; cases z
    | inr q' =>
      cases h
      exact q c F H σ k.ok s _ fun F' H' a b => px _ _ F' H' _ rfl a b
  | .iff t a b, ρ, o, h, c, F, H, σ, Dn, k, s, pn, pr, px => by
    unfold evB at h
    replace h := bnd h; obtain ⟨⟨x, ρ1⟩, h1, h⟩ := h
    refine evT_ok t _ _ _ h1 c F H σ k.ok s _ fun F1 H1 s1 e1 => ?_
    cases x with
    | true => exact evB_ok a _ _ h c F1 H1 σ Dn k s1 (fun ρ' F' H' σ' z p q => pn ρ' F' H' σ' z p (e1.trans q)) (fun ρ' F' H' σ' v r z p q => pr ρ' F' H' σ' v r z p (e1.trans q)) fun C ρ' F' H' σ' z p q => px C ρ' F' H' σ' z p (e1.trans q)
    | false => exact evB_ok b _ _ h c F1 H1 σ Dn k s1 (fun ρ' F' H' σ' z p q => pn ρ' F' H' σ' z p (e1.trans q)) (fun ρ' F' H' σ' v r z p q => pr ρ' F' H' σ' v r z p (e1.trans q)) fun C ρ' F' H' σ' z p q => px C ρ' F' H' σ' z p (e1.trans q)
  | .sif t a b, ρ, o, h, c, F, H, σ, Dn, k, s, pn, pr, px => by
    unfold evB at h
    replace h := bnd h; obtain ⟨⟨x, ρ1⟩, h1, h⟩ := h
    refine evT_ok t _ _ _ h1 c F H σ k.ok s _ fun F1 H1 s1 e1 => ?_
    cases x with
    | true =>
      rw [if_pos rfl] at h
      replace h := bnd h; obtain ⟨oa, h2, h⟩ := h
      refine evB_ok a _ _ h2 c F1 H1 σ _ k s1 (fun ρ' F' H' σ' z p q => ?_) (fun ρ' F' H' σ' v r z p q => ?_) fun C ρ' F' H' σ' z p q => ?_
      · subst z
        exact evB_ok b _ _ h c F' H' σ' Dn k p (fun ρ2 F2 H2 σ2 z2 p2 q2 => pn ρ2 F2 H2 σ2 z2 p2 ((e1.trans q).trans q2)) (fun ρ2 F2 H2 σ2 v r z2 p2 q2 => pr ρ2 F2 H2 σ2 v r z2 p2 ((e1.trans q).trans q2)) fun C ρ2 F2 H2 σ2 z2 p2 q2 => px C ρ2 F2 H2 σ2 z2 p2 ((e1.trans q).trans q2)
      · subst z; cases h; exact pr ρ' F' H' σ' v r rfl p (e1.trans q)
      · subst z; cases h; exact px C ρ' F' H' σ' rfl p (e1.trans q)
    | false => exact evB_ok b _ _ h c F1 H1 σ Dn k s1 (fun ρ' F' H' σ' z p q => pn ρ' F' H' σ' z p (e1.trans q)) (fun ρ' F' H' σ' v r z p q => pr ρ' F' H' σ' v r z p (e1.trans q)) fun C ρ' F' H' σ' z p q => px C ρ' F' H' σ' z p (e1.trans q)
  | .set j e, ρ, o, h, c, F, H, σ, Dn, k, s, pn, pr, px => by
    unfold evB at h
    replace h := bnd h; obtain ⟨z, h1, h⟩ := h
    have q := evR_ok (ES := ES) e _ _ h1
    cases z with
    | inr q' =>
      cases h
      exact q c F H σ k.ok s _ fun F' H' a b => px _ _ F' H' _ rfl a b
    | inl p =>
      have po : ∀ {o' : Out}, o = o' → (∃ ρ', o' = .nx ρ') → Post g c Dn F (fun x => x = o') := fun {o'} eo ⟨ρ0, e0⟩ => by
        subst e0
        refine ⟨fun ρ' F' H' σ' z a b => ?_, fun _ _ _ _ _ _ z => ?_, fun _ _ _ _ z => ?_, fun _ _ _ _ z => ?_, fun _ _ _ _ _ z => ?_⟩
        · cases z
          exact pn _ F' H' σ' eo a b
        all_goals cases z
      obtain ⟨v, ρ1⟩ := p
      have q : EvV g (denR g.K g.xe ES e) ρ v ρ1 := q
      cases v with
      | d x =>
        change (if j < ρ1.length ∧ j ∉ g.ps then _ else _) = _ at h
        split at h
        · rename_i hh; cases h; exact sv_set (P := fun x => x = _) q rfl hh.1 hh.2 c F H σ Dn k s (po rfl ⟨_, rfl⟩)
        · cases h
      | o j => cases h
      | n ds =>
        change (if j < ρ1.length ∧ j ∉ g.ps then _ else _) = _ at h
        split at h
        · rename_i hh; cases h; exact sv_setN (P := fun x => x = _) q rfl hh.1 hh.2 c F H σ Dn k s (po rfl ⟨_, rfl⟩)
        · cases h
      | w w =>
        change (if j < ρ1.length ∧ j ∉ g.ps then _ else _) = _ at h
        split at h
        · rename_i hh; cases h; exact sv_setW (P := fun x => x = _) q rfl hh.1 hh.2 c F H σ Dn k s (po rfl ⟨_, rfl⟩)
        · cases h
  | .dr e, ρ, o, h, c, F, H, σ, Dn, k, s, pn, pr, px => by
    unfold evB at h
    replace h := bnd h; obtain ⟨z, h1, h⟩ := h
    have q := evR_ok (ES := ES) e _ _ h1
    cases z with
    | inr q' =>
      cases h
      exact q c F H σ k.ok s _ fun F' H' a b => px _ _ F' H' _ rfl a b
    | inl p =>
      replace h := mpd h; obtain ⟨d, hd, h⟩ := h
      subst h
      exact toD_ok q hd c F H σ k.ok s _ fun v F' H' s' e' x => pn _ F' H' _ rfl s' e'
  | .sq a b, ρ, o, h, c, F, H, σ, Dn, k, s, pn, pr, px => by
    unfold evB at h
    replace h := bnd h; obtain ⟨oa, h2, h⟩ := h
    refine evB_ok a _ _ h2 c F H σ _ k s (fun ρ' F' H' σ' z p q => ?_) (fun ρ' F' H' σ' v r z p q => ?_) fun C ρ' F' H' σ' z p q => ?_
    · subst z
      exact evB_ok b _ _ h c F' H' σ' Dn k p (fun ρ2 F2 H2 σ2 z2 p2 q2 => pn ρ2 F2 H2 σ2 z2 p2 (q.trans q2)) (fun ρ2 F2 H2 σ2 v r z2 p2 q2 => pr ρ2 F2 H2 σ2 v r z2 p2 (q.trans q2)) fun C ρ2 F2 H2 σ2 z2 p2 q2 => px C ρ2 F2 H2 σ2 z2 p2 (q.trans q2)
    · subst z; cases h; exact pr ρ' F' H' σ' v r rfl p q
    · subst z; cases h; exact px C ρ' F' H' σ' rfl p q
  | .nx, ρ, o, h, c, F, H, σ, Dn, k, s, pn, pr, px => by
    cases h
    exact pn _ F H σ rfl s (Same.refl _)
theorem tbl_mem {tbl : List (Addr × List Str)} {C : Addr} {ws : List Str} (h : tblN tbl C = some ws) : (C, ws) ∈ tbl := by
  unfold tblN at h
  replace h := mpd h; obtain ⟨q, h1, h⟩ := h
  have := List.find?_some h1
  have e : q.1 = C := by simpa using this
  have m := List.mem_of_find?_eq_some h1
  rw [← e, ← h]
  exact m
theorem exS_ok : ∀ (st : St) (g : Gm), sideS g.K st → ∀ (ρ : Rho) (o : Out), exS g.ps st ρ = some o → Sv g (denS g.K g.xe st) ρ (fun o' => o' = o)
  | .set i e, g, hs, ρ, o, h => by
    unfold exS at h
    replace h := bnd h; obtain ⟨⟨v, ρ1⟩, h1, h⟩ := h
    have k := evE_ok e _ _ _ h1
    cases v with
    | d x =>
      change (if i < ρ1.length ∧ i ∉ g.ps then _ else _) = _ at h
      split at h
      · rename_i hh; cases h; exact sv_set k rfl hh.1 hh.2
      · cases h
    | o j => cases h
    | n ds =>
      change (if i < ρ1.length ∧ i ∉ g.ps then _ else _) = _ at h
      split at h
      · rename_i hh; cases h; exact sv_setN k rfl hh.1 hh.2
      · cases h
    | w w =>
      change (if i < ρ1.length ∧ i ∉ g.ps then _ else _) = _ at h
      split at h
      · rename_i hh; cases h; exact sv_setW k rfl hh.1 hh.2
      · cases h
  | .asg e t, g, hs, ρ, o, h => by
    unfold exS at h
    replace h := bnd h; obtain ⟨⟨v, ρ1⟩, h1, h⟩ := h
    replace h := bnd h; obtain ⟨d, hd, h⟩ := h
    replace h := mpd h; obtain ⟨ρ2, h2, h⟩ := h
    subst h
    exact sv_asgT (toD_ok (evE_ok e _ _ _ h1) hd) (setG_ok t d _ _ h2) rfl
  | .seti i a e, g, hs, ρ, o, h => by
    unfold exS at h
    replace h := bnd h; obtain ⟨⟨v, ρ1⟩, h1, h⟩ := h
    replace h := bnd h; obtain ⟨d, hd, h⟩ := h
    replace h := bnd h; obtain ⟨d0, h0, h⟩ := h
    replace h := bnd h; obtain ⟨⟨w, ρ2⟩, h2, h⟩ := h
    replace h := bnd h; obtain ⟨x, hx, h⟩ := h
    replace h := bnd h; obtain ⟨n, hn, h⟩ := h
    replace h := bnd h; obtain ⟨ds, hds, h⟩ := h
    replace h := mpd h; obtain ⟨j, hj, h⟩ := h
    subst h
    have e1 := asI_eq hn
    subst e1
    exact sv_setItem (toD_ok (evE_ok e _ _ _ h1) hd) (toD_ok (evE_ok a _ _ _ h2) hx) (ownL_eq h0) (ownL_eq hds) hj rfl
  | .app i e, g, hs, ρ, o, h => by
    unfold exS at h
    replace h := bnd h; obtain ⟨d0, h0, h⟩ := h
    replace h := bnd h; obtain ⟨⟨v, ρ1⟩, h1, h⟩ := h
    replace h := bnd h; obtain ⟨d, hd, h⟩ := h
    replace h := bnd h; obtain ⟨ds, hds, h⟩ := h
    split at h
    · cases h
      exact sv_append (ownL_eq h0) (toD_ok (evE_ok e _ _ _ h1) hd) (ownL_eq hds) ‹_› rfl
    · cases h
  | .newD i, g, hs, ρ, o, h => by
    unfold exS at h
    split at h
    · rename_i hh; cases h; exact sv_newDict rfl hh.1 hh.2
    · cases h
  | .dput i a e, g, hs, ρ, o, h => by
    unfold exS at h
    replace h := bnd h; obtain ⟨⟨v, ρ1⟩, h1, h⟩ := h
    replace h := bnd h; obtain ⟨d, hd, h⟩ := h
    replace h := bnd h; obtain ⟨d0, h0, h⟩ := h
    replace h := bnd h; obtain ⟨⟨w, ρ2⟩, h2, h⟩ := h
    replace h := bnd h; obtain ⟨x, hx, h⟩ := h
    replace h := bnd h; obtain ⟨k, hk, h⟩ := h
    replace h := bnd h; obtain ⟨kvs, hv, h⟩ := h
    split at h
    · cases h
      have e1 := keyD_eq hk
      subst e1
      exact sv_dput (toD_ok (evE_ok e _ _ _ h1) hd) (ownD_eq h0) (toD_ok (evE_ok a _ _ _ h2) hx) (ownD_eq hv) ‹_› rfl
    · cases h
  | .drop e, g, hs, ρ, o, h => by
    unfold exS at h
    replace h := bnd h; obtain ⟨⟨v, ρ1⟩, h1, h⟩ := h
    replace h := mpd h; obtain ⟨d, hd, h⟩ := h
    subst h
    exact sv_drop (toD_ok (evE_ok e _ _ _ h1) hd) rfl
  | .ret e, g, hs, ρ, o, h => by
    unfold exS at h
    replace h := bnd h; obtain ⟨⟨v, ρ1⟩, h1, h⟩ := h
    have k := evE_ok e _ _ _ h1
    cases v with
    | d x => cases h; exact sv_ret k rfl
    | n ds => cases h; exact sv_retN k rfl
    | w w => cases h; exact sv_retW k rfl
    | o i =>
      change (ownL ρ1 i).bind _ = _ at h
      replace h := bnd h; obtain ⟨ds, hds, h⟩ := h
      split at h
      · cases h; exact sv_retL k (ownL_eq hds) ‹_› rfl
      · cases h
  | .retN, g, hs, ρ, o, h => by cases h; exact sv_retNone rfl
  | .iff t a b, g, hs, ρ, o, h => by
    unfold exS at h
    replace h := bnd h; obtain ⟨⟨x, ρ1⟩, h1, h⟩ := h
    refine sv_if (evT_ok t _ _ _ h1) (fun hx => ?_) (fun hx => ?_)
    · simp only [hx, if_true] at h
      exact exS_ok a g hs.1 _ _ h
    · simp only [hx, Bool.false_eq_true, if_false] at h
      exact exS_ok b g hs.2 _ _ h
  | .for it t b, g, hs, ρ, o, h => by
    unfold exS at h
    replace h := bnd h; obtain ⟨⟨l, ρ1⟩, h1, h⟩ := h
    refine sv_for (fun i ρ' => forGo (fun x ρ' => (setG g.ps t x ρ').bind fun ρ1 => exS g.ps b ρ1) (l.drop i) ρ' = some o) (evI_ok it _ _ _ h1) h (fun i ρ' hi hI => ?_) (fun ρ' hI => ?_)
    · have e : l.drop i = nthD l i :: l.drop (i + 1) := by
        rw [List.drop_eq_getElem_cons hi]
        congr 1
        unfold nthD
        rw [List.getD_eq_getElem?_getD, List.getElem?_eq_getElem hi]
        rfl
      simp only [e] at hI
      unfold forGo at hI
      replace hI := bnd hI; obtain ⟨oo, h2, hI⟩ := hI
      replace h2 := bnd h2; obtain ⟨ρ2, h2, h3⟩ := h2
      refine ⟨ρ2, setG_ok t _ _ _ h2, (exS_ok b g hs _ _ h3).mono fun o' eo => ?_⟩
      subst eo
      cases o' with
      | nx ρ3 => exact hI
      | ct ρ3 => exact hI
      | bk ρ3 => exact Option.some.inj hI
      | rt ρ3 r => exact Option.some.inj hI
      | ex C ρ3 => exact Option.some.inj hI
    · simp only [List.drop_length] at hI
      exact Option.some.inj hI
  | .wh n t b, g, hs, ρ, o, h => by
    unfold exS at h
    refine sv_while (fun m ρ' => whGo (fun ρ' => evT g.ps t ρ') (fun ρ' => exS g.ps b ρ') m ρ' = some o) n h (fun m ρ' hI => ?_)
    cases m with
    | zero => cases hI
    | succ m =>
      unfold whGo at hI
      replace hI := bnd hI; obtain ⟨⟨x, ρ2⟩, h2, hI⟩ := hI
      refine ⟨x, ρ2, evT_ok t _ _ _ h2, fun hx => ?_, fun hx => ?_⟩
      · simp only [hx, if_true] at hI
        replace hI := bnd hI; obtain ⟨oo, h3, hI⟩ := hI
        refine (exS_ok b g hs _ _ h3).mono fun o' eo => ?_
        subst eo
        cases o' with
        | nx ρ3 => exact ⟨m, by omega, hI⟩
        | ct ρ3 => exact ⟨m, by omega, hI⟩
        | bk ρ3 => exact Option.some.inj hI
        | rt ρ3 r => exact Option.some.inj hI
        | ex C ρ3 => exact Option.some.inj hI
      · simp only [hx, Bool.false_eq_true, if_false] at hI
        exact Option.some.inj hI
  | .brk, g, hs, ρ, o, h => by cases h; exact sv_break rfl
  | .cont, g, hs, ρ, o, h => by cases h; exact sv_cont rfl
  | .nx, g, hs, ρ, o, h => by cases h; exact sv_next rfl
  | .seq a b, g, hs, ρ, o, h => by
    unfold exS at h
    replace h := bnd h; obtain ⟨oo, h1, h⟩ := h
    refine sv_seq ((exS_ok a g hs.1 _ _ h1).mono fun o' eo => ?_)
    subst eo
    cases o' with
    | nx ρ3 => exact exS_ok b g hs.2 _ _ h
    | ct ρ3 => exact Option.some.inj h
    | bk ρ3 => exact Option.some.inj h
    | rt ρ3 r => exact Option.some.inj h
    | ex C ρ3 => exact Option.some.inj h
  | .fz i s, g, hs, ρ, o, h => by
    unfold exS at h
    split at h
    · rename_i ds q
      split at h
      · cases h
      · exact sv_frz q (exS_ok s g hs _ _ h) ‹_›
    · exact exS_ok s g hs _ _ h
  | .retD i, g, hs, ρ, o, h => by
    unfold exS at h
    replace h := bnd h; obtain ⟨kvs, hk, h⟩ := h
    split at h
    · cases h
    · cases h
      exact sv_retOwn (ownD_eq hk) rfl ‹_›
  | .fzD i s, g, hs, ρ, o, h => by
    unfold exS at h
    split at h
    · rename_i ds q
      split at h
      · cases h
      · exact sv_frzD q (exS_ok s g hs _ _ h) ‹_›
    · exact exS_ok s g hs _ _ h
  | .lk i s, g, hs, ρ, o, h => by
    unfold exS at h
    replace h := bnd h; obtain ⟨kvs, hk, h⟩ := h
    split at h
    · cases h
    rename_i hp
    replace h := bnd h; obtain ⟨oo, h1, h⟩ := h
    refine sv_lock (ownD_eq hk) hp ((exS_ok s ⟨g.K, i :: g.ps, g.xe⟩ hs _ _ h1).mono fun o' eo => ?_)
    subst eo
    cases o' with
    | nx ρ3 =>
      replace h := bnd h; obtain ⟨kvs', hk', h⟩ := h
      split at h
      · rename_i hn
        cases h
        exact ⟨ρ3, kvs', rfl, ownF_eq hk', noF_eq hn, rfl⟩
      · cases h
    | _ => cases h
  | .never, g, hs, ρ, o, h => by cases h
  | .tryK b i S kd tbl, g, hs, ρ, o, h => by
    unfold exS at h
    replace h := bnd h; obtain ⟨ob, h1, h⟩ := h
    refine fun c F H σ Dn k s p => evB_ok b _ _ h1 c F H σ Dn k s (fun ρ' F' H' σ' z a d => ?_) (fun ρ' F' H' σ' v r z a d e => ?_) fun C ρ' F' H' σ' z a d => ?_
    · subst z; cases h
    · subst z
      cases h
      exact p.rt ρ' F' H' σ' v r rfl a d e
    · subst z
      replace h := bnd h; obtain ⟨ws, hw, h⟩ := h
      split at h
      · rename_i hi
        cases h
        exact kind_lands (H := H) (ρ := ρ) (hs _ (tbl_mem hw)) p rfl (by rw [a.len]; exact hi) a d
      · cases h
  | .tryN b i S cs l, g, hs, ρ, o, h => by
    unfold exS at h
    replace h := bnd h; obtain ⟨ob, h1, h⟩ := h
    refine fun c F H σ Dn k s p => evB_ok b _ _ h1 c F H σ Dn k s (fun ρ' F' H' σ' z a d => ?_) (fun ρ' F' H' σ' v r z a d e => ?_) fun C ρ' F' H' σ' z a d => ?_
    · subst z; cases h; exact p.nx _ F' H' σ' rfl a d
    · subst z; cases h; exact p.rt _ F' H' σ' v r rfl a d e
    · subst z
      change (if C ∈ cs ∧ i < ρ'.length ∧ i ∉ g.ps then _ else _) = _ at h
      split at h
      · rename_i hh
        replace h := mpd h; obtain ⟨dd, hd, h⟩ := h
        subst h
        exact nmd_lands hs.1 hh.1 k hh.2.1 hh.2.2 p rfl a d hs.2 hd
      · cases h
  | .mv i j, g, hs, ρ, o, h => by
    unfold exS at h
    replace h := bnd h; obtain ⟨kvs, hk, h⟩ := h
    split at h
    · rename_i hh
      cases h
      exact sv_move (ownD_eq hk) (fun ks z => by cases z) rfl hh.1 hh.2.1 hh.2.2
    · cases h
  | .aug i e, g, hs, ρ, o, h => by
    unfold exS at h
    replace h := bnd h; obtain ⟨d0, h0, h⟩ := h
    replace h := bnd h; obtain ⟨m, hm, h⟩ := h
    replace h := bnd h; obtain ⟨⟨va, ρ1⟩, h1, h⟩ := h
    replace h := bnd h; obtain ⟨d, hd, h⟩ := h
    replace h := bnd h; obtain ⟨n, hn, h⟩ := h
    split at h
    · rename_i hh
      cases h
      cases asI_eq hm
      cases asI_eq hn
      have e0 : ρ[i]? = some (.dat (.int m)) := by
        split at h0
        · rename_i q; cases h0; exact q
        · cases h0
      exact sv_aug e0 (toD_ok (evE_ok e _ _ _ h1) hd) rfl hh.1 hh.2
    · cases h
  | .raise C, g, hs, ρ, o, h => by
    cases h
    exact sv_raise rfl
  | .dropX f as, g, hs, ρ, o, h => by
    unfold exS at h
    replace h := bnd h; obtain ⟨⟨As, ρ1⟩, h1, h⟩ := h
    replace h := bnd h; obtain ⟨ds, hd, h⟩ := h
    replace h := bnd h; obtain ⟨r, hr, h⟩ := h
    cases r with
    | ok r =>
      cases r with
      | dat d =>
        cases h
        exact sv_drop (ed_callX (R := fun ds r => f ds = some r) (evA_ok as _ _ _ h1) hr hd) rfl
      | new w => cases h
    | exc C =>
      cases h
      exact sv_dropEx (R := fun ds r => f ds = some r) (evA_ok as _ _ _ h1) hr hd rfl
  | .tryC f as C i S cs, g, hs, ρ, o, h => by
    unfold exS at h
    replace h := bnd h; obtain ⟨⟨As, ρ1⟩, h1, h⟩ := h
    replace h := bnd h; obtain ⟨ds, hd, h⟩ := h
    replace h := bnd h; obtain ⟨r, hr, h⟩ := h
    cases r with
    | ok r =>
      cases r with
      | dat d =>
        cases h
        exact sv_tryOk (R := fun ds r => f ds = some r) (evA_ok as _ _ _ h1) hr hd rfl
      | new w => cases h
    | exc C' =>
      change (if C' = C ∧ i < ρ1.length then _ else _) = _ at h
      split at h
      · rename_i hh
        obtain ⟨rfl, hi⟩ := hh
        cases h
        obtain ⟨hC, k0, k1, k2, hz⟩ := hs
        exact sv_tryEx (R := fun ds r => f ds = some r) (evA_ok as _ _ _ h1) hr hd k0 (fun a σ H D hσ q => suite_ok hC k1 k2 hz a σ H D hσ q) hi rfl
      · cases h
def out1 : Out → Option RetV
  | .nx _ => some (.dat .none)
  | .rt _ r => some r
  | _ => none
def runD (st : St) (m n : Nat) (ds : List D) : Option RetV := if ds.length = m then (exS [] st (ds.map .dat ++ List.replicate (n - ds.length) .no)).bind out1 else none
def out2 : Out → Option (RetV × List D)
  | .nx ρ => (ownL ρ 0).map fun s => (.dat .none, s)
  | .rt ρ r => (ownL ρ 0).map fun s => (r, s)
  | _ => none
def runS (st : St) (m n : Nat) (s0 : List D) (ds : List D) : Option (RetV × List D) := if ds.length + 1 = m then (exS [0] st ((.own (.lst s0) :: ds.map .dat) ++ List.replicate (n - (ds.length + 1)) .no)).bind out2 else none
theorem len_D {st : St} {m n : Nat} {ds : List D} {r : RetV} (h : runD st m n ds = some r) : ds.length = m := by
  unfold runD at h
  split at h
  · assumption
  · cases h
theorem len_S {st : St} {m n : Nat} {s0 s1 ds : List D} {r : RetV} (h : runS st m n s0 ds = some (r, s1)) : ds.length + 1 = m := by
  unfold runS at h
  split at h
  · assumption
  · cases h
theorem run_D {st : St} {m : Nat} {N : List Str} {ds : List D} {r : RetV} (hs : sideS K st) (h : runD st m N.length ds = some r) : Sv (gm K []) (denS K E0 st) (rho0 N (ds.map .dat)) (RetP r) := by
  unfold runD at h
  split at h
  case isFalse => cases h
  replace h := bnd h; obtain ⟨o, h1, h⟩ := h
  have e : rho0 N (ds.map .dat) = ds.map .dat ++ List.replicate (N.length - ds.length) .no := by unfold rho0; rw [List.length_map]
  rw [e]
  refine (exS_ok st (gm K []) hs _ _ h1).mono fun o' eo => ?_
  subst eo
  cases o' with
  | nx ρ => exact (Option.some.inj h).symm
  | rt ρ r' => exact Option.some.inj h
  | _ => cases h
theorem run_S {st : St} {m : Nat} {N : List Str} {s0 s1 ds : List D} {r : RetV} (hs : sideS K st) (h : runS st m N.length s0 ds = some (r, s1)) : Sv (gm K [0]) (denS K E0 st) (rho0 N (.own (.lst s0) :: ds.map .dat)) (RetS r s1) := by
  unfold runS at h
  split at h
  case isFalse => cases h
  replace h := bnd h; obtain ⟨o, h1, h⟩ := h
  have e : rho0 N (.own (.lst s0) :: ds.map .dat) = (.own (.lst s0) :: ds.map .dat) ++ List.replicate (N.length - (ds.length + 1)) .no := by unfold rho0; simp
  rw [e]
  refine (exS_ok st (gm K [0]) hs _ _ h1).mono fun o' eo => ?_
  subst eo
  cases o' with
  | nx ρ =>
    replace h := mpd h; obtain ⟨s, h2, h⟩ := h
    cases h
    exact ⟨rfl, ownL_eq h2⟩
  | rt ρ r' =>
    replace h := mpd h; obtain ⟨s, h2, h⟩ := h
    cases h
    exact ⟨rfl, ownL_eq h2⟩
  | _ => cases h
def out3 : Out → Option RetX
  | .nx _ => some (.ok (.dat .none))
  | .rt _ r => some (.ok r)
  | .ex C _ => some (.exc C)
  | _ => none
def runX (st : St) (m n : Nat) (ds : List D) : Option RetX := if ds.length = m then (exS [] st (ds.map .dat ++ List.replicate (n - ds.length) .no)).bind out3 else none
theorem len_X {st : St} {m n : Nat} {ds : List D} {r : RetX} (h : runX st m n ds = some r) : ds.length = m := by
  unfold runX at h
  split at h
  · assumption
  · cases h
theorem run_X {st : St} {m : Nat} {N : List Str} {ds : List D} {r : RetX} (E : XK) (hs : sideS K st) (h : runX st m N.length ds = some r) : Sv ⟨K, [], E⟩ (denS K E st) (rho0 N (ds.map .dat)) (RetXP r) := by
  unfold runX at h
  split at h
  case isFalse => cases h
  replace h := bnd h; obtain ⟨o, h1, h⟩ := h
  have e : rho0 N (ds.map .dat) = ds.map .dat ++ List.replicate (N.length - ds.length) .no := by unfold rho0; rw [List.length_map]
  rw [e]
  refine (exS_ok st ⟨K, [], E⟩ hs _ _ h1).mono fun o' eo => ?_
  subst eo
  cases o' with
  | nx ρ => exact (Option.some.inj h).symm
  | rt ρ r' => exact (Option.some.inj h).symm
  | ex C ρ => exact (Option.some.inj h).symm
  | _ => cases h
end EV
namespace EV
open PySem PySem.Spec PyProof.Rows L2 DL
/-- no tables -/
instance (priority := low) tab0 : DL.TabC := ⟨[]⟩
section
variable {β : Type} {ps : List Nat} {ρ ρ' : Rho}
def aV (v : Vl) (k : DL.Arg → Option β) : Option β := (toA v).bind k
def dV (v : Vl) (k : D → Option β) : Option β := (toD v).bind k
def nA (A : DL.Arg) (ρ : Rho) (k : D → Option β) : Option β := (A.den ρ).bind k
def gE (ρ : Rho) (i : Nat) (k : Ent → Option β) : Option β := (ρ[i]?).bind k
def eL (e : Ent) (k : List D → Option β) : Option β := match e with | .own (.lst ds) => k ds | _ => none
def eD (e : Ent) (k : List (Key × D) → Option β) : Option β := match e with | .own (.dK ds) => k ds | _ => none
def eF (e : Ent) (k : List (Key × D) → Option β) : Option β := match e with | .own (.dF ds) => k ds | _ => none
def eV (e : Ent) (i : Nat) (k : Vl → Option β) : Option β := match e with | .dat d => k (.d d) | .own (.lst _) => k (.o i) | _ => none
def iD (d : D) (k : Int → Option β) : Option β := (asI d).bind k
def bD (d : D) (k : Bool → Option β) : Option β := (asB d).bind k
def kD (d : D) (k : Key → Option β) : Option β := (keyD d).bind k
def zD (z : Rz) (k : D → Option β) : Option β := (asRz z).bind k
def sR (ρ : Rho) (i : Nat) (e : Ent) (k : Rho → Option β) : Option β := if i < ρ.length then k (ρ.set i e) else none
def sK (ps : List Nat) (ρ : Rho) (i : Nat) (e : Ent) (k : Rho → Option β) : Option β := if i < ρ.length ∧ i ∉ ps then k (ρ.set i e) else none
def oZ (o : Op) (d e : D) (k : Rz → Option β) : Option β := (op2 o d e).bind k
def cZ (f : Bf) (ds : List D) (k : Rz → Option β) : Option β := (cb1 f ds).bind k
def vZ (z : Rz) (k : Vl → Option β) : Option β := k (rzV z)
def xE (ps : List Nat) (e : Ex) (ρ : Rho) (k : Vl → Rho → Option β) : Option β := (evE ps e ρ).bind fun p => k p.1 p.2
def xA (ps : List Nat) (e : Exs) (ρ : Rho) (k : List DL.Arg → Rho → Option β) : Option β := (evA ps e ρ).bind fun p => k p.1 p.2
def xT (ps : List Nat) (e : Tx) (ρ : Rho) (k : Bool → Rho → Option β) : Option β := (evT ps e ρ).bind fun p => k p.1 p.2
def xP (ps : List Nat) (e : Px) (ρ : Rho) (k : Option Int → Rho → Option β) : Option β := (evP ps e ρ).bind fun p => k p.1 p.2
def xI (ps : List Nat) (e : Ix) (ρ : Rho) (k : List D → Rho → Option β) : Option β := (evI ps e ρ).bind fun p => k p.1 p.2
def kS (o : Out) (kn : Rho → Option β) (ka : Out → Option β) : Option β := match o with | .nx ρ => kn ρ | o => ka o
def xS (ps : List Nat) (st : EV.St) (ρ : Rho) (kn : Rho → Option β) (ka : Out → Option β) : Option β := (exS ps st ρ).bind fun o => kS o kn ka
def xR (ps : List Nat) (e : RE) (ρ : Rho) (kv : Vl → Rho → Option β) (kx : Addr → Rho → Option β) : Option β := (evR ps e ρ).bind fun r => match r with
  | .inl p => kv p.1 p.2
  | .inr q => kx q.1 q.2
def xB (ps : List Nat) (b : TB) (ρ : Rho) (ko : Out → Option β) (kx : Addr → Rho → Option β) : Option β := (evB ps b ρ).bind fun o => match o with
  | .ex C ρ' => kx C ρ'
  | o => ko o
def xG (ps : List Nat) (t : EV.Tg) (d : D) (ρ : Rho) (k : Rho → Option β) : Option β := (setG ps t d ρ).bind k
def xGs (ps : List Nat) (t : EV.Tgs) (d : List D) (ρ : Rho) (k : Rho → Option β) : Option β := (setGs ps t d ρ).bind k
def trn (ps : List Nat) (t : EV.Tg) (b : EV.St) (x : D) (ρ : Rho) : Option Out := (setG ps t x ρ).bind fun ρ1 => exS ps b ρ1
def ltn (ps : List Nat) (j : Nat) (t : Tx) (e : Ex) (x : D) (ρ' : Rho) : Option (Option D × Rho) := if j < ρ'.length then (evT ps t (ρ'.set j (.dat x))).bind fun q => if q.1 then (evE ps e q.2).bind fun r => (toD r.1).map fun d => (some d, r.2.set j .no) else some (none, q.2.set j .no) else none
def ltn2 (ps : List Nat) (i j : Nat) (t : Tx) (e : Ex) (x : D) (ρ' : Rho) : Option (Option D × Rho) := if i < ρ'.length ∧ j < ρ'.length then (two x).bind fun y => (evT ps t ((ρ'.set i (.dat y.1)).set j (.dat y.2))).bind fun q => if q.1 then (evE ps e q.2).bind fun r => (toD r.1).map fun d => (some d, (r.2.set i .no).set j .no) else some (none, (q.2.set i .no).set j .no) else none
def fK (f : D → Rho → Option Out) (l : List D) (ρ : Rho) (k : Out → Option β) : Option β := (forGo f l ρ).bind k
def lK (f : D → Rho → Option (Option D × Rho)) (l : List D) (ρ : Rho) (k : List D → Rho → Option β) : Option β := (lcGo f l ρ).bind fun p => k p.1 p.2
def wK (t : Tx) (b : EV.St) (ps : List Nat) (n : Nat) (ρ : Rho) (k : Out → Option β) : Option β := (whGo (fun ρ' => evT ps t ρ') (fun ρ' => exS ps b ρ') n ρ).bind k
def cK (f : List D → Option RetV) (ds : List D) (k : Vl → Option β) : Option β := (f ds).bind fun r => k (rvV r)
/-- a def that may raise -/
def cX (f : List D → Option RetX) (ds : List D) (kd : D → Option β) (kx : Addr → Option β) : Option β := (f ds).bind fun r => match r with | .ok (.dat d) => kd d | .exc C => kx C | _ => none
def cKS (f : List D → List D → Option (RetV × List D)) (st ds : List D) (k : Vl → List D → Option β) : Option β := (f st ds).bind fun r => k (rvV r.1) r.2
def aI (ds : List D) (i : Int) (k : D → Option β) : Option β := (atI ds i).bind k
def nI (n : Nat) (i : Int) (k : Nat → Option β) : Option β := (ixN n i).bind k
def dA (As : List DL.Arg) (k : List D → Option β) : Option β := (datas As).bind k
def dN (As : List DL.Arg) (ρ : Rho) (k : List D → Option β) : Option β := (dens ρ As).bind k
def lD (d : D) (k : List D → Option β) : Option β := match d with | .list ds => k ds | _ => none
def sD (d : D) (k : List D → Option β) : Option β := match d with | .list ds => k ds | .tuple ds => k ds | _ => none
def tD (d : D) (k : List D → Option β) : Option β := match d with | .tuple ds => k ds | _ => none
variable {k : Vl → Option β} {kd : D → Option β} {ka : DL.Arg → Option β} {kr : Rho → Option β} {ke : Ent → Option β} {kl : List D → Option β} {kx : List (Key × D) → Option β} {ki : Int → Option β} {kb : Bool → Option β} {kk : Key → Option β} {kz : Rz → Option β} {kn : Nat → Option β}
theorem aV_d {x : D} : aV (.d x) ka = ka (.d x) := rfl
theorem aV_o {i : Nat} : aV (.o i) ka = ka (.o i) := rfl
theorem aV_n {ds : List D} : aV (.n ds) ka = ka (.d (.list ds)) := rfl
theorem aV_w {ds : List D} : aV (.w (.lst ds)) ka = ka (.d (.list ds)) := rfl
theorem dV_d {x : D} : dV (.d x) kd = kd x := rfl
theorem dV_n {ds : List D} : dV (.n ds) kd = kd (.list ds) := rfl
theorem aV_wD {kvs : List (Key × D)} : aV (.w (.dK kvs)) ka = ka (.d (.dict (kvE kvs))) := rfl
theorem dV_wD {kvs : List (Key × D)} : dV (.w (.dK kvs)) kd = kd (.dict (kvE kvs)) := rfl
theorem dV_w {ds : List D} : dV (.w (.lst ds)) kd = kd (.list ds) := rfl
theorem gE_0 {e : Ent} : gE (e :: ρ) 0 ke = ke e := rfl
theorem gE_s {e : Ent} {i : Nat} : gE (e :: ρ) (i + 1) ke = gE ρ i ke := rfl
theorem eL_l {ds : List D} : eL (.own (.lst ds)) kl = kl ds := rfl
theorem eD_l {ds : List (Key × D)} : eD (.own (.dK ds)) kx = kx ds := rfl
theorem eV_d {d : D} {i : Nat} : eV (.dat d) i k = k (.d d) := rfl
theorem eV_l {ds : List D} {i : Nat} : eV (.own (.lst ds)) i k = k (.o i) := rfl
theorem nA_d {x : D} : nA (.d x) ρ kd = kd x := rfl
theorem nA_o {i : Nat} : nA (.o i) ρ kd = gE ρ i fun e => eL e fun ds => kd (.list ds) := by
  unfold nA gE eL
  simp only [DL.Arg.den]
  cases h : ρ[i]? with
  | none => rfl
  | some e =>
    cases e with
    | own w => cases w <;> rfl
    | _ => rfl
theorem iD_i {i : Int} : iD (.int i) ki = ki i := rfl
theorem bD_b {b : Bool} : bD (.bool b) kb = kb b := rfl
theorem kD_i {i : Int} : kD (.int i) kk = kk (.inl i) := rfl
theorem kD_s {i : Str} : kD (.str i) kk = kk (.inr i) := rfl
theorem zD_d {z : D} : zD (.d z) kd = kd z := rfl
theorem vZ_d {z : D} : vZ (.d z) k = k (.d z) := rfl
theorem vZ_n {z : List D} : vZ (.n z) k = k (.n z) := rfl
theorem sR_0 {e x : Ent} : sR (e :: ρ) 0 x kr = kr (x :: ρ) := rfl
theorem sR_s {e x : Ent} {i : Nat} : sR (e :: ρ) (i + 1) x kr = sR ρ i x fun ρ' => kr (e :: ρ') := by
  unfold sR
  simp
theorem sK_n {i : Nat} {e : Ent} : sK [] ρ i e kr = sR ρ i e kr := by
  unfold sK sR
  simp
theorem sK_0 {i : Nat} {e : Ent} : sK [0] ρ (i + 1) e kr = sR ρ (i + 1) e kr := by
  unfold sK sR
  simp
theorem sK_j {i j : Nat} {e : Ent} (h : i ≠ j) : sK [j] ρ i e kr = sR ρ i e kr := by
  unfold sK sR
  simp [h]
theorem eF_l {ds : List (Key × D)} {kx : List (Key × D) → Option β} : eF (.own (.dF ds)) kx = kx ds := rfl
theorem noF_nil : noF [] = true := rfl
theorem noF_dat {d : D} {ρ : Rho} : noF (.dat d :: ρ) = noF ρ := rfl
theorem noF_no {ρ : Rho} : noF (.no :: ρ) = noF ρ := rfl
theorem noF_lst {ds : List D} {ρ : Rho} : noF (.own (.lst ds) :: ρ) = noF ρ := rfl
theorem noF_dK {ds : List (Key × D)} {ρ : Rho} : noF (.own (.dK ds) :: ρ) = noF ρ := rfl
theorem lD_l {ds : List D} : lD (.list ds) kl = kl ds := rfl
theorem sD_l {ds : List D} : sD (.list ds) kl = kl ds := rfl
theorem sD_t {ds : List D} : sD (.tuple ds) kl = kl ds := rfl
theorem tD_t {ds : List D} : tD (.tuple ds) kl = kl ds := rfl
theorem dA_nil : dA [] kl = kl [] := rfl
theorem dA_d {x : D} {As : List DL.Arg} : dA (.d x :: As) kl = dA As fun ds => kl (x :: ds) := by
  unfold dA
  rw [datas]
  cases datas As <;> rfl
theorem dN_nil : dN [] ρ kl = kl [] := rfl
theorem dN_c {A : DL.Arg} {As : List DL.Arg} : dN (A :: As) ρ kl = nA A ρ fun d => dN As ρ fun ds => kl (d :: ds) := by
  unfold dN nA
  rw [dens]
  cases A.den ρ with
  | none => rfl
  | some d => cases dens ρ As <;> rfl
theorem oZ_addI {i j : Int} : oZ .add (.int i) (.int j) kz = kz (.d (.int (i + j))) := rfl
theorem oZ_addS {i j : Str} (h : i.length + j.length ≤ sizeLine) : oZ .add (.str i) (.str j) kz = kz (.d (.str (i ++ j))) := by show Option.bind (if _ then _ else none) _ = _; rw [if_pos h]; rfl
theorem oZ_addT {i j : List D} (h : i.length + j.length ≤ sizeLine) : oZ .add (.tuple i) (.tuple j) kz = kz (.d (.tuple (i ++ j))) := by show Option.bind (if _ then _ else none) _ = _; rw [if_pos h]; rfl
theorem oZ_addL {i j : List D} (h : i.length + j.length ≤ sizeLine) : oZ .add (.list i) (.list j) kz = kz (.n (i ++ j)) := by show Option.bind (if _ then _ else none) _ = _; rw [if_pos h]; rfl
theorem oZ_sub {i j : Int} : oZ .sub (.int i) (.int j) kz = kz (.d (.int (i - j))) := rfl
theorem oZ_mul {i j : Int} (h : (-(2 ^ 64) < i ∧ i < 2 ^ 64) ∨ (-(2 ^ 64) < j ∧ j < 2 ^ 64)) : oZ .mul (.int i) (.int j) kz = kz (.d (.int (i * j))) := by show Option.bind (if _ then _ else none) _ = _; rw [if_pos h]; rfl
theorem oZ_mulT {xs : List D} {j : Int} (h : -(2 ^ 63) ≤ j ∧ j ≤ 1000 ∧ xs.length ≤ 1000) : oZ .mul (.tuple xs) (.int j) kz = kz (.d (.tuple (List.replicate j.toNat xs).flatten)) := by show Option.bind (if _ then _ else none) _ = _; rw [if_pos h]; rfl
theorem oZ_mulL {xs : List D} {j : Int} (h : -(2 ^ 63) ≤ j ∧ j ≤ 1000 ∧ xs.length ≤ 1000) : oZ .mul (.list xs) (.int j) kz = kz (.n (List.replicate j.toNat xs).flatten) := by show Option.bind (if _ then _ else none) _ = _; rw [if_pos h]; rfl
theorem oZ_fdiv {i j : Int} (h : 0 < j ∧ j < 1073741824) : oZ .fdiv (.int i) (.int j) kz = kz (.d (.int (i / j))) := by show Option.bind (if _ then _ else none) _ = _; rw [if_pos h]; rfl
theorem oZ_mod {i j : Int} (h : 0 < j) : oZ .mod (.int i) (.int j) kz = kz (.d (.int (i % j))) := by show Option.bind (if _ then _ else none) _ = _; rw [if_pos h]; rfl
theorem oZ_pow {i j : Int} (h : 0 ≤ j ∧ j ≤ 1000000 ∧ i.natAbs < 2 ^ 64) : oZ .pow (.int i) (.int j) kz = kz (.d (.int (i ^ j.toNat))) := by show Option.bind (if _ then _ else none) _ = _; rw [if_pos h]; rfl
theorem oZ_eqI {i j : Int} : oZ .eq (.int i) (.int j) kz = kz (.d (.bool (decide (i = j)))) := by
  show kz (.d (.bool (i == j))) = _
  congr
theorem oZ_neI {i j : Int} : oZ .ne (.int i) (.int j) kz = kz (.d (.bool (!decide (i = j)))) := by
  show kz (.d (.bool (!(i == j)))) = _
  congr
theorem oZ_eq {d e : D} (h : SeqAt.shaped d = true) (h2 : SeqAt.shaped e = true) : oZ .eq d e kz = kz (.d (.bool (PyData.eqv d e))) := by
  have : op2 .eq d e = some (.d (.bool (PyData.eqv d e))) := by
    cases d <;> first | exact if_pos (c := SeqAt.shaped _ = true ∧ SeqAt.shaped _ = true) ⟨h, h2⟩ | (cases e <;> first | rfl | exact if_pos (c := SeqAt.shaped _ = true ∧ SeqAt.shaped _ = true) ⟨h, h2⟩)
  unfold oZ
  rw [this]; rfl
theorem oZ_eqS {i j : Str} : oZ .eq (.str i) (.str j) kz = kz (.d (.bool (i == j))) := rfl
theorem oZ_neS {i j : Str} : oZ .ne (.str i) (.str j) kz = kz (.d (.bool (!(i == j)))) := rfl
theorem oZ_lt {i j : Int} : oZ .lt (.int i) (.int j) kz = kz (.d (.bool (decide (i < j)))) := rfl
theorem oZ_le {i j : Int} : oZ .le (.int i) (.int j) kz = kz (.d (.bool (decide (i ≤ j)))) := rfl
theorem oZ_gt {i j : Int} : oZ .gt (.int i) (.int j) kz = kz (.d (.bool (decide (j < i)))) := rfl
theorem oZ_ge {i j : Int} : oZ .ge (.int i) (.int j) kz = kz (.d (.bool (decide (j ≤ i)))) := rfl
theorem oZ_inL {d : D} {ds : List D} (h : SeqAt.shaped d = true) (h2 : SeqAt.shaped (.list ds) = true) : oZ .isIn d (.list ds) kz = kz (.d (.bool (inD d ds))) := by show Option.bind (if _ then _ else none) _ = _; rw [if_pos ⟨h, h2⟩]; rfl
theorem oZ_inT {d : D} {ds : List D} (h : flatD d = true) (h2 : ds.all flatD = true) : oZ .isIn d (.tuple ds) kz = kz (.d (.bool (inD d ds))) := by show Option.bind (if _ then _ else none) _ = _; rw [if_pos ⟨h, h2⟩]; rfl
theorem oZ_ixL {ds : List D} {i : Int} : oZ .ix (.list ds) (.int i) kz = aI ds i fun d => kz (.d d) := by
  show Option.bind ((atI ds i).map Rz.d) kz = (atI ds i).bind fun d => kz (.d d)
  rw [Option.bind_map]; rfl
theorem oZ_ixT {ds : List D} {i : Int} : oZ .ix (.tuple ds) (.int i) kz = aI ds i fun d => kz (.d d) := by
  show Option.bind ((atI ds i).map Rz.d) kz = (atI ds i).bind fun d => kz (.d d)
  rw [Option.bind_map]; rfl
theorem aI_0 {d : D} {ds : List D} : aI (d :: ds) 0 kd = kd d := by
  unfold aI atI ixN
  simp
theorem aI_1 {a d : D} {ds : List D} : aI (a :: d :: ds) 1 kd = kd d := by
  unfold aI
  rw [atI_in (by omega) (by simp only [List.length_cons]; omega)]; rfl
theorem aI_2 {a b d : D} {ds : List D} : aI (a :: b :: d :: ds) 2 kd = kd d := by
  unfold aI
  rw [atI_in (by omega) (by simp only [List.length_cons]; omega)]; rfl
theorem aI_in {ds : List D} {i : Int} (h0 : 0 ≤ i) (h1 : i < ds.length) : aI ds i kd = kd (nthD ds i.toNat) := by
  unfold aI
  rw [atI_in h0 h1]; rfl
theorem nI_in {n : Nat} {i : Int} (h0 : 0 ≤ i) (h1 : i < n) : nI n i kn = kn i.toNat := by
  unfold nI ixN
  rw [if_pos h0, if_pos h1]; rfl
theorem nI_0 {n : Nat} (h : 0 < n) : nI n 0 kn = kn 0 := nI_in (i := 0) (by omega) (by omega)
theorem nI_1 {n : Nat} (h : 1 < n) : nI n 1 kn = kn 1 := nI_in (i := 1) (by omega) (by omega)
theorem cZ_lenL {ds : List D} : cZ .len [.list ds] kz = kz (.d (.int ds.length)) := rfl
theorem cZ_lenT {ds : List D} : cZ .len [.tuple ds] kz = kz (.d (.int ds.length)) := rfl
theorem cZ_lenLm {α : Type} {f : α → D} {xs : List α} : cZ .len [.list (xs.map f)] kz = kz (.d (.int xs.length)) := by rw [cZ_lenL, List.length_map]
theorem cZ_lenTm {α : Type} {f : α → D} {xs : List α} : cZ .len [.tuple (xs.map f)] kz = kz (.d (.int xs.length)) := by rw [cZ_lenT, List.length_map]
theorem cZ_abs {i : Int} : cZ .abs [.int i] kz = kz (.d (.int (if i < 0 then -i else i))) := rfl
theorem cZ_int {i : Int} : cZ .int [.int i] kz = kz (.d (.int i)) := rfl
theorem cZ_intB {i : Bool} : cZ .int [.bool i] kz = kz (.d (.int (if i then 1 else 0))) := rfl
theorem cZ_tup {ds : List D} : cZ .tuple [.list ds] kz = kz (.d (.tuple ds)) := rfl
theorem cZ_lstL {ds : List D} : cZ .list [.list ds] kz = kz (.n ds) := rfl
theorem cZ_lstT {ds : List D} : cZ .list [.tuple ds] kz = kz (.n ds) := rfl
theorem cZ_all {bs : List Bool} : cZ .all [.list (bs.map .bool)] kz = kz (.d (.bool (bs.all id))) := by show Option.bind (Option.map _ (boolsOf _)) _ = _; rw [boolsOf_map]; rfl
theorem cZ_any {bs : List Bool} : cZ .any [.list (bs.map .bool)] kz = kz (.d (.bool (bs.any id))) := by show Option.bind (Option.map _ (boolsOf _)) _ = _; rw [boolsOf_map]; rfl
theorem cZ_max2 {i j : Int} : cZ .max [.int i, .int j] kz = kz (.d (.int (if j > i then j else i))) := rfl
theorem cZ_min2 {i j : Int} : cZ .min [.int i, .int j] kz = kz (.d (.int (if j < i then j else i))) := rfl
theorem cZ_sum {ns : List Int} : cZ .sum [.list (ns.map .int)] kz = kz (.d (.int ns.sum)) := by show Option.bind (Option.map _ (intsOf _)) _ = _; rw [intsOf_map]; rfl
theorem sortD_ints (ns : List Int) : sortD (ns.map .int) = some ((sortI ns).map .int) := by unfold sortD; rw [intsOf_map]
theorem cZ_sorted {ns : List Int} : cZ .sorted [.list (ns.map .int)] kz = kz (.n ((sortI ns).map .int)) := by show Option.bind (Option.map _ (sortD _)) _ = _; rw [sortD_ints]; rfl
theorem cZ_reprL {ds : List D} (h1 : (PyData.list ds).showable = true) (h2 : (PyData.list ds).hasDict = false) (h3 : (PyData.list ds).depth ≤ 64) (h4 : (PyData.list ds).shown.length ≤ sizeLine) : cZ .repr [.list ds] kz = kz (.d (.str (PyData.list ds).shown)) := by
  show Option.bind (if _ then _ else none) _ = _; rw [if_pos ⟨h1, h2, h3, h4⟩]; rfl
end
end EV
namespace EV
open PySem PySem.Spec PyProof.Rows L2 DL
section
variable {β : Type} {ps : List Nat} {ρ ρ' : Rho} {k : Vl → Rho → Option β} {kA : List DL.Arg → Rho → Option β} {kT : Bool → Rho → Option β} {kP : Option Int → Rho → Option β} {kI : List D → Rho → Option β} {kn : Rho → Option β} {ka : Out → Option β} {kO : Out → Option β}
theorem bm {α γ : Type} {o : Option α} {f : α → γ} {g : γ → Option β} : (o.map f).bind g = o.bind fun a => g (f a) := by cases o <;> rfl
theorem xE_int {i : Int} : xE ps (.int i) ρ k = k (.d (.int i)) ρ := rfl
theorem xE_bl {i : Bool} : xE ps (.bl i) ρ k = k (.d (.bool i)) ρ := rfl
theorem xE_str {i : Str} : xE ps (.str i) ρ k = k (.d (.str i)) ρ := rfl
theorem xE_non : xE ps .non ρ k = k (.d .none) ρ := rfl
theorem xE_var {i : Nat} : xE ps (.var i) ρ k = gE ρ i fun e => eV e i fun v => k v ρ := by
  unfold xE gE eV
  simp only [evE, varV]
  cases h : ρ[i]? with
  | none => rfl
  | some e =>
    cases e with
    | own w => cases w <;> rfl
    | _ => rfl
theorem xE_op {o : Op} {a b : Ex} : xE ps (.op o a b) ρ k = xE ps a ρ fun v ρ1 => aV v fun A => xE ps b ρ1 fun w ρ2 => aV w fun B => nA A ρ2 fun d => nA B ρ2 fun e => oZ o d e fun z => vZ z fun v => k v ρ2 := by
  simp only [xE, aV, nA, oZ, vZ, evE, Option.bind_assoc, bm]
theorem xE_neg {a : Ex} : xE ps (.neg a) ρ k = xE ps a ρ fun v ρ1 => aV v fun A => nA A ρ1 fun d => iD d fun i => k (.d (.int (-i))) ρ1 := by
  simp only [xE, aV, nA, iD, evE, Option.bind_assoc, bm]
theorem xE_nt {a : Ex} : xE ps (.nt a) ρ k = xE ps a ρ fun v ρ1 => dV v fun d => bD d fun b => k (.d (.bool (!b))) ρ1 := by
  simp only [xE, dV, bD, evE, Option.bind_assoc, bm]
theorem iteb {α : Type} {c : Prop} [Decidable c] {x y : Option α} {f : α → Option β} : (if c then x else y).bind f = if c then x.bind f else y.bind f := by split <;> rfl
theorem xE_an {a b : Ex} : xE ps (.an a b) ρ k = xE ps a ρ fun v ρ1 => dV v fun d => bD d fun x => if x = true then xE ps b ρ1 fun w ρ2 => dV w fun e => bD e fun y => k (.d (.bool y)) ρ2 else k (.d (.bool false)) ρ1 := by
  simp only [xE, dV, bD, evE, Option.bind_assoc, bm, iteb]
  rfl
theorem xE_or {a b : Ex} : xE ps (.or a b) ρ k = xE ps a ρ fun v ρ1 => dV v fun d => bD d fun x => if x = true then k (.d (.bool true)) ρ1 else xE ps b ρ1 fun w ρ2 => dV w fun e => bD e fun y => k (.d (.bool y)) ρ2 := by
  simp only [xE, dV, bD, evE, Option.bind_assoc, bm, iteb]
  rfl
theorem xE_ch {o o' : Op} {a b c : Ex} : xE ps (.ch o o' a b c) ρ k = xE ps a ρ fun v ρ1 => aV v fun A => xE ps b ρ1 fun w ρ2 => aV w fun B => nA A ρ2 fun d => nA B ρ2 fun e => oZ o d e fun z => zD z fun z => bD z fun x =>
    if x = true then xE ps c ρ2 fun u ρ3 => aV u fun C => nA B ρ3 fun e => nA C ρ3 fun f => oZ o' e f fun z => zD z fun z => bD z fun y => k (.d (.bool y)) ρ3 else k (.d (.bool false)) ρ2 := by
  simp only [xE, aV, nA, oZ, zD, bD, evE, Option.bind_assoc, bm, iteb]
  rfl
theorem xE_isN {a : Ex} : xE ps (.isN a) ρ k = xE ps a ρ fun v ρ1 => dV v fun d => k (.d (.bool (!notNone d))) ρ1 := by
  simp only [xE, dV, evE, Option.bind_assoc, bm]
theorem xE_notN {a : Ex} : xE ps (.notN a) ρ k = xE ps a ρ fun v ρ1 => dV v fun d => k (.d (.bool (notNone d))) ρ1 := by
  simp only [xE, dV, evE, Option.bind_assoc, bm]
theorem xE_ife {t : Tx} {a b : Ex} : xE ps (.ife t a b) ρ k = xT ps t ρ fun x ρ1 => if x = true then xE ps a ρ1 k else xE ps b ρ1 k := by
  simp only [xE, xT, evE, Option.bind_assoc, bm, iteb]
theorem xE_tup {as : Exs} : xE ps (.tup as) ρ k = xA ps as ρ fun As ρ1 => dA As fun ds => if ds.length ≤ sizeLine then k (.d (.tuple ds)) ρ1 else none := by
  simp only [xE, xA, dA, evE, Option.bind_assoc, bm, iteb]
  rfl
theorem xE_lst {as : Exs} : xE ps (.lst as) ρ k = xA ps as ρ fun As ρ1 => dA As fun ds => if ds.length ≤ sizeLine then k (.n ds) ρ1 else none := by
  simp only [xE, xA, dA, evE, Option.bind_assoc, bm, iteb]
  rfl
theorem xE_sl {a : Ex} {lo hi : Px} : xE ps (.sl a lo hi) ρ k = xE ps a ρ fun v ρ1 => aV v fun A => xP ps lo ρ1 fun l ρ2 => xP ps hi ρ2 fun h ρ3 => nA A ρ3 fun d => (sl1 d l h).bind fun z => vZ z fun v => k v ρ3 := by
  simp only [xE, xP, aV, nA, vZ, evE, Option.bind_assoc, bm]
theorem sl1_T {ds : List D} {lo hi : Option Int} {kz : Rz → Option β} : (sl1 (.tuple ds) lo hi).bind kz = kz (.d (.tuple (cutD ds lo hi))) := rfl
theorem sl1_L {ds : List D} {lo hi : Option Int} {kz : Rz → Option β} : (sl1 (.list ds) lo hi).bind kz = kz (.n (cutD ds lo hi)) := rfl
theorem xE_cb {f : Bf} {as : Exs} : xE ps (.cb f as) ρ k = xA ps as ρ fun As ρ1 => dN As ρ1 fun ds => cZ f ds fun z => vZ z fun v => k v ρ1 := by
  simp only [xE, xA, dN, cZ, vZ, evE, Option.bind_assoc, bm]
theorem xE_isa {a : Ex} {T : String} : xE ps (.isa a T) ρ k = xE ps a ρ fun v ρ1 => aV v fun A => nA A ρ1 fun d => (kitN d T).bind fun b => k (.d (.bool b)) ρ1 := by
  simp only [xE, aV, nA, evE, Option.bind_assoc, bm]
theorem xE_call {f : List D → Option RetV} {as : Exs} : xE ps (.call f as) ρ k = xA ps as ρ fun As ρ1 => dA As fun ds => cK f ds fun v => k v ρ1 := by
  simp only [xE, xA, dA, cK, evE, Option.bind_assoc, bm]
theorem xE_callS {f : List D → List D → Option (RetV × List D)} {i : Nat} {as : Exs} : xE ps (.callS f i as) ρ k = gE ρ i fun e => eL e fun _ => xA ps as ρ fun As ρ1 => dA As fun ds => gE ρ1 i fun e => eL e fun st => cKS f st ds fun v st' => sR ρ1 i (.own (.lst st')) fun ρ2 => k v ρ2 := by
  have g : ∀ (ρ : Rho) (f : List D → Option β), (ownL ρ i).bind f = gE ρ i fun e => eL e f := fun ρ f => by
    unfold ownL gE eL
    cases h : ρ[i]? with
    | none => rfl
    | some e =>
      cases e with
      | own w => cases w <;> rfl
      | _ => rfl
  simp only [xE, xA, dA, cKS, evE, Option.bind_assoc, bm]
  rw [g]
  congr 1
  funext e
  congr 1
  funext s0
  congr 1
  funext p
  congr 1
  funext ds
  unfold ownL gE eL
  cases h : p.2[i]? with
  | none => rfl
  | some e =>
    cases e with
    | own w =>
      cases w with
      | lst st =>
        have hl : i < p.2.length := (List.getElem?_eq_some_iff.mp h).1
        show (f st ds).bind _ = (f st ds).bind _
        congr 1
        funext r
        unfold sR
        rw [if_pos hl]
      | _ => rfl
    | _ => rfl
def sN (ρ : Rho) (j : Nat) (kn : Rho → Option β) : Option β := kn (ρ.set j .no)
theorem sN_0 {e : Ent} : sN (e :: ρ) 0 kn = kn (.no :: ρ) := rfl
theorem sN_s {e : Ent} {j : Nat} : sN (e :: ρ) (j + 1) kn = sN ρ j fun ρ' => kn (e :: ρ') := rfl
theorem xE_lc {it : Ix} {j : Nat} {t : Tx} {e : Ex} : xE ps (.lc it j t e) ρ k = xI ps it ρ fun l ρ1 => if l.length < sizeLine ∧ j ∉ ps then sN ρ1 j fun ρ2 => lK (ltn ps j t e) l ρ2 fun ds ρ3 => k (.n ds) ρ3 else none := by
  simp only [xE, xI, lK, evE, Option.bind_assoc, bm, iteb]
  rfl
theorem xE_lc2 {it : Ix} {i j : Nat} {t : Tx} {e : Ex} : xE ps (.lc2 it i j t e) ρ k = xI ps it ρ fun l ρ1 => if l.length < sizeLine ∧ (i ∉ ps ∧ j ∉ ps) ∧ i ≠ j then sN ρ1 i fun ρ2 => sN ρ2 j fun ρ3 => lK (ltn2 ps i j t e) l ρ3 fun ds ρ3 => k (.n ds) ρ3 else none := by
  simp only [xE, xI, lK, evE, Option.bind_assoc, bm, iteb]
  rfl
def rvA (v : Vl) (kd : D → Option β) : Option β := match v with
  | .d d => kd d
  | _ => none
theorem rvA_d {x : D} {kd : D → Option β} : rvA (.d x) kd = kd x := rfl
theorem xE_callL {f : List D → List D → Option (RetV × List D)} {i j : Nat} : xE ps (.callL f i j) ρ k = gE ρ i fun e => eL e fun st => gE ρ j fun e2 => eL e2 fun ds => cKS f st [.list ds] fun v st' => rvA v fun d => if i ≠ j ∧ ds.all isS = true ∧ st'.all apartS = true ∧ atomD d = true then sR ρ i (.own (.lst st')) fun ρ2 => k v ρ2 else none := by
  simp only [xE, evE, cKS, Option.bind_assoc]
  unfold ownL gE eL
  cases h : ρ[i]? with
  | none => rfl
  | some e =>
    cases e with
    | own w =>
      cases w with
      | lst st =>
        have hl : i < ρ.length := (List.getElem?_eq_some_iff.mp h).1
        cases h2 : ρ[j]? with
        | none => rfl
        | some e2 =>
          cases e2 with
          | own w2 =>
            cases w2 with
            | lst ds =>
              show (f st [.list ds]).bind _ = (f st [.list ds]).bind _
              congr 1
              funext r
              obtain ⟨r1, r2⟩ := r
              cases r1 with
              | new w => rfl
              | dat d =>
                show (if _ then _ else _ : Option (Vl × Rho)).bind _ = (if _ then _ else _ : Option _)
                split
                · unfold sR
                  rw [if_pos hl]
                  rfl
                · rfl
            | _ => rfl
          | _ => rfl
      | _ => rfl
    | _ => rfl
theorem xE_lrg {a : Ex} : xE ps (.lrg a) ρ k = xE ps a ρ fun v ρ1 => dV v fun d => iD d fun n => if 0 ≤ n ∧ n ≤ 1000000 then k (.n (rgD 0 n.toNat)) ρ1 else none := by
  simp only [xE, dV, iD, evE, Option.bind_assoc, bm, iteb]
  rfl
theorem xE_trg {a : Ex} : xE ps (.trg a) ρ k = xE ps a ρ fun v ρ1 => dV v fun d => iD d fun n => if 0 ≤ n ∧ n ≤ 1000000 then k (.d (.tuple (rgD 0 n.toNat))) ρ1 else none := by
  simp only [xE, dV, iD, evE, Option.bind_assoc, bm, iteb]
  rfl
theorem gL {ρ : Rho} {i : Nat} {f : List D → Option β} : (ownL ρ i).bind f = gE ρ i fun e => eL e f := by
    unfold ownL gE eL
    cases h : ρ[i]? with
    | none => rfl
    | some e =>
      cases e with
      | own w => cases w <;> rfl
      | _ => rfl
theorem gD {ρ : Rho} {i : Nat} {f : List (Key × D) → Option β} : (ownD ρ i).bind f = gE ρ i fun e => eD e f := by
    unfold ownD gE eD
    cases h : ρ[i]? with
    | none => rfl
    | some e =>
      cases e with
      | own w => cases w <;> rfl
      | _ => rfl
def pK (ds : List D) (j : Nat) (kd : D → Option β) : Option β := (ds[j]?).bind kd
theorem sRp {i : Nat} {e : Ent} (h : i < ρ.length) : sR ρ i e kn = kn (ρ.set i e) := by unfold sR; rw [if_pos h]
theorem ownLt {ds : List D} {i : Nat} (h : ownL ρ i = some ds) : i < ρ.length := (List.getElem?_eq_some_iff.mp (ownL_eq h)).1
theorem ownDt {ds : List (Key × D)} {i : Nat} (h : ownD ρ i = some ds) : i < ρ.length := (List.getElem?_eq_some_iff.mp (ownD_eq h)).1
theorem bindE {α : Type} {o : Option α} {f f' : α → Option β} (h : ∀ a, o = some a → f a = f' a) : o.bind f = o.bind f' := by
  cases o with
  | none => rfl
  | some a => exact h a rfl
theorem xE_pop {i : Nat} {a : Ex} : xE ps (.pop i a) ρ k = gE ρ i fun e => eL e fun _ => xE ps a ρ fun v ρ1 => dV v fun d => iD d fun n => gE ρ1 i fun e => eL e fun ds => if -(2 ^ 63) ≤ n ∧ n < 2 ^ 63 then nI ds.length n fun j => pK ds j fun d => sR ρ1 i (.own (.lst (ds.eraseIdx j))) fun ρ2 => k (.d d) ρ2 else none := by
  simp only [xE, dV, iD, nI, pK, ← gL, evE, Option.bind_assoc, bm]
  refine bindE fun _ _ => bindE fun p _ => bindE fun _ _ => bindE fun _ _ => bindE fun ds h => ?_
  split
  · simp only [Option.bind_assoc, bm]
    refine bindE fun _ _ => bindE fun _ _ => ?_
    rw [sRp (ownLt h)]
  · rfl
def ixK (e : D) (ds : List D) (k : Nat → Option β) : Option β := (idxOf e ds).bind k
def ixS (e : Str) (ds : List D) (k : Nat → Option β) : Option β := (strsOf ds).bind fun xs => (idxS e xs).bind k
theorem xE_idxL {a b : Ex} : xE ps (.idxL a b) ρ k = xE ps a ρ fun v ρ1 => dV v fun d => xE ps b ρ1 fun w ρ2 => aV w fun B => nA B ρ2 fun e => lD d fun ds => if SeqAt.shaped (.list ds) = true ∧ SeqAt.shaped e = true then ixK e ds fun j => k (.d (.int (j : Nat))) ρ2 else none := by
  simp only [xE, dV, aV, nA, ixK, lD, evE, Option.bind_assoc, bm]
  refine bindE fun _ _ => bindE fun d _ => bindE fun _ _ => bindE fun _ _ => bindE fun e h => ?_
  cases d <;> try rfl
  rw [iteb]
  congr 1
  rw [bm]
def sT (d : D) (k : Str → Option β) : Option β := match d with | .str x => k x | _ => none
theorem sT_s {x : Str} {ks : Str → Option β} : sT (.str x) ks = ks x := rfl
theorem xE_idxT {a b : Ex} : xE ps (.idxT a b) ρ k = xE ps a ρ fun v ρ1 => dV v fun d => xE ps b ρ1 fun w ρ2 => aV w fun B => nA B ρ2 fun e => tD d fun ds => sT e fun x => ixS x ds fun j => k (.d (.int (j : Nat))) ρ2 := by
  simp only [xE, dV, aV, nA, ixS, tD, sT, evE, Option.bind_assoc, bm]
  refine bindE fun _ _ => bindE fun d _ => bindE fun _ _ => bindE fun _ _ => bindE fun e h => ?_
  cases d <;> try rfl
  cases e <;> try rfl
  simp only [Option.bind_assoc, bm]
def vK (kvs : List (Key × D)) (q : Key) (kd : D → Option β) : Option β := (valD kvs q).bind kd
theorem xE_dget {i : Nat} {a : Ex} : xE ps (.dget i a) ρ k = gE ρ i fun e => eD e fun _ => xE ps a ρ fun v ρ1 => dV v fun d => kD d fun q => gE ρ1 i fun e => eD e fun kvs => vK kvs q fun d => k (.d d) ρ1 := by
  simp only [xE, dV, kD, vK, ← gD, evE, Option.bind_assoc, bm]
def tE (e : Ent) (kd : D → Option β) : Option β := match e with | .dat d => kd d | _ => none
theorem tE_d {d : D} {kd : D → Option β} : tE (.dat d) kd = kd d := rfl
theorem xE_dspV {j : Nat} {n : Int} : xE ps (.dsp (.v j) n) ρ k = gE ρ j fun e => tE e fun d => kD d fun q => k (.w (.dK [(q, .int n)])) ρ := by
  simp only [xE, evE, Option.bind_assoc, bm]
  have e1 : evK ρ (.v j) = (ρ[j]?).bind fun e => match e with | .dat d => some d | _ => none := by
    show (match ρ[j]? with | some (.dat d) => some d | _ => none) = _
    cases ρ[j]? with
    | none => rfl
    | some e => cases e <;> rfl
  rw [e1]
  unfold gE tE kD
  cases ρ[j]? with
  | none => rfl
  | some e => cases e <;> rfl
theorem xE_dspC {i n : Int} : xE ps (.dsp (.c i) n) ρ k = k (.w (.dK [(.inl i, .int n)])) ρ := rfl
theorem xE_dspM {i n : Int} : xE ps (.dsp (.m i) n) ρ k = k (.w (.dK [(.inl (-i), .int n)])) ρ := rfl
theorem xE_din {i : Nat} {a : Ex} : xE ps (.din a i) ρ k = xE ps a ρ fun v ρ1 => dV v fun d => kD d fun q => gE ρ1 i fun e => eD e fun kvs => k (.d (.bool (valD kvs q).isSome)) ρ1 := by
  simp only [xE, dV, kD, ← gD, evE, Option.bind_assoc, bm]
theorem xE_dnin {i : Nat} {a : Ex} : xE ps (.dnin a i) ρ k = xE ps a ρ fun v ρ1 => dV v fun d => kD d fun q => gE ρ1 i fun e => eD e fun kvs => k (.d (.bool (!(valD kvs q).isSome))) ρ1 := by
  simp only [xE, dV, kD, ← gD, evE, Option.bind_assoc, bm]
theorem xE_dset {i : Nat} {a b : Ex} : xE ps (.dset i a b) ρ k = gE ρ i fun e => eD e fun _ => xE ps a ρ fun v ρ1 => dV v fun d => kD d fun q => xE ps b ρ1 fun w ρ2 => dV w fun x => gE ρ2 i fun e => eD e fun kvs =>
    if kvs.length < sizeLine then sR ρ2 i (.own (.dK (if (valD kvs q).isSome then kvs else putD kvs q x))) fun ρ3 => k (.d ((valD kvs q).getD x)) ρ3 else none := by
  simp only [xE, dV, kD, ← gD, evE, Option.bind_assoc, bm]
  refine bindE fun _ _ => bindE fun _ _ => bindE fun _ _ => bindE fun _ _ => bindE fun p _ => bindE fun _ _ => bindE fun kvs h => ?_
  split
  · rw [sRp (ownDt h)]; rfl
  · rfl
def dO (d : D) (k : List (Key × D) → Option β) : Option β := (dictOf d).bind k
theorem dO_d {kvs : List (Key × D)} {k : List (Key × D) → Option β} : dO (.dict (kvE kvs)) k = k kvs := by
  show (unK (kvE kvs)).bind k = k kvs
  rw [unK_E]
  rfl
theorem xE_dinD {a b : Ex} : xE ps (.dinD a b) ρ k = xE ps a ρ fun v ρ1 => dV v fun d => kD d fun q => xE ps b ρ1 fun w ρ2 => dV w fun e => dO e fun kvs => k (.d (.bool (valD kvs q).isSome)) ρ2 := by
  simp only [xE, dV, kD, dO, evE, Option.bind_assoc, bm]
theorem xE_dninD {a b : Ex} : xE ps (.dninD a b) ρ k = xE ps a ρ fun v ρ1 => dV v fun d => kD d fun q => xE ps b ρ1 fun w ρ2 => dV w fun e => dO e fun kvs => k (.d (.bool (!(valD kvs q).isSome))) ρ2 := by
  simp only [xE, dV, kD, dO, evE, Option.bind_assoc, bm]
theorem xE_dgetD {a b : Ex} : xE ps (.dgetD a b) ρ k = xE ps a ρ fun v ρ1 => dV v fun e => dO e fun kvs => xE ps b ρ1 fun w ρ2 => dV w fun d => kD d fun q => (valD kvs q).bind fun z => k (.d z) ρ2 := by
  simp only [xE, dV, kD, dO, evE, Option.bind_assoc, bm]
theorem xE_dspb {j : Nat} {n : Bool} : xE ps (.dspb (.v j) n) ρ k = gE ρ j fun e => tE e fun d => kD d fun q => k (.w (.dK [(q, .bool n)])) ρ := by
  simp only [xE, evE, Option.bind_assoc, bm]
  have e1 : evK ρ (.v j) = (ρ[j]?).bind fun e => match e with | .dat d => some d | _ => none := by
    show (match ρ[j]? with | some (.dat d) => some d | _ => none) = _
    cases ρ[j]? with
    | none => rfl
    | some e => cases e <;> rfl
  rw [e1]
  unfold gE tE kD
  cases ρ[j]? with
  | none => rfl
  | some e => cases e <;> rfl
def kV_ (v : Vl) (k : List (Key × D) → Option β) : Option β := (dkV v).bind k
theorem kV_w {kvs : List (Key × D)} {k : List (Key × D) → Option β} : kV_ (.w (.dK kvs)) k = k kvs := rfl
theorem xI_ukd {a : Ex} : xI ps (.ukd a) ρ kI = xE ps a ρ fun v ρ1 => kV_ v fun kvs => kI (kvs.map fun q => keyOf q.1) ρ1 := by
  simp only [xE, xI, kV_, evI, Option.bind_assoc, bm]
theorem xE_fnv {a : Addr} : xE ps (.fnv a) ρ k = k (.d (fnD a)) ρ := rfl
theorem xE_callF {i : Nat} {tbl : List (Addr × (List D → Option RetV))} {as : Exs} : xE ps (.callF i tbl as) ρ k = gE ρ i fun e => tE e fun d => (asFn d).bind fun a => (tblF tbl a).bind fun f => xA ps as ρ fun As ρ1 => dA As fun ds => cK f ds fun v => k v ρ1 := by
  have t : ∀ {γ : Type} (f : D → Option γ), (datV ρ i).bind f = gE ρ i fun e => tE e f := fun f => by
    unfold gE tE datV
    cases ρ[i]? with
    | none => rfl
    | some e => cases e <;> rfl
  simp only [xE, xA, dA, cK, ← t, evE, Option.bind_assoc, bm]
theorem xE_callE {e : Ex} {tbl : List (Addr × (List D → Option RetV))} {as : Exs} : xE ps (.callE e tbl as) ρ k = xE ps e ρ fun v ρ1 => dV v fun d => (asFn d).bind fun a => (tblF tbl a).bind fun f => xA ps as ρ1 fun As ρ2 => dA As fun ds => cK f ds fun v => k v ρ2 := by
  simp only [xE, xA, dA, cK, dV, evE, Option.bind_assoc, bm]
theorem xE_isaT {a : Ex} {Ts : List String} (hl : Ts.length ≤ 10) : xE ps (.isaT a Ts) ρ k = xE ps a ρ fun v ρ1 => aV v fun A => nA A ρ1 fun d => (kitM d Ts).bind fun b => k (.d (.bool b)) ρ1 := by
  simp only [xE, aV, nA, evE, if_pos hl, Option.bind_assoc, bm]
theorem xA_nil : xA ps .nil ρ kA = kA [] ρ := rfl
theorem xA_cons {a : Ex} {as : Exs} : xA ps (.cons a as) ρ kA = xE ps a ρ fun v ρ1 => aV v fun A => xA ps as ρ1 fun As ρ2 => kA (A :: As) ρ2 := by
  simp only [xE, xA, aV, evA, Option.bind_assoc, bm]
theorem xT_te {a : Ex} : xT ps (.te a) ρ kT = xE ps a ρ fun v ρ1 => dV v fun d => bD d fun b => kT b ρ1 := by
  simp only [xE, xT, dV, bD, evT, Option.bind_assoc, bm]
theorem xT_tb {a : Ex} : xT ps (.tb a) ρ kT = xE ps a ρ fun v ρ1 => dV v fun d => bD d fun b => kT b ρ1 := by
  simp only [xE, xT, dV, bD, evT, Option.bind_assoc, bm]
theorem xT_nt {t : Tx} : xT ps (.nt t) ρ kT = xT ps t ρ fun b ρ1 => kT (!b) ρ1 := by
  simp only [xT, evT, Option.bind_assoc, bm]
theorem xT_an {t u : Tx} : xT ps (.an t u) ρ kT = xT ps t ρ fun b ρ1 => if b = true then xT ps u ρ1 kT else kT false ρ1 := by
  simp only [xT, evT, Option.bind_assoc, bm, iteb]
  rfl
theorem xT_or {t u : Tx} : xT ps (.or t u) ρ kT = xT ps t ρ fun b ρ1 => if b = true then kT true ρ1 else xT ps u ρ1 kT := by
  simp only [xT, evT, Option.bind_assoc, bm, iteb]
  rfl
theorem xT_yes : xT ps .yes ρ kT = kT true ρ := rfl
theorem xT_lend {t : Tx} : xT ps (.lend t) ρ kT = xT ps t (ρ.map lentE) fun b _ => kT b ρ := by
  simp only [xT, evT, Option.bind_assoc, bm]
theorem xP_no : xP ps .no ρ kP = kP none ρ := rfl
theorem xP_at {a : Ex} : xP ps (.at a) ρ kP = xE ps a ρ fun v ρ1 => dV v fun d => iD d fun i => kP (some i) ρ1 := by
  simp only [xE, xP, dV, iD, evP, Option.bind_assoc, bm]
theorem xI_rng1 {a : Ex} : xI ps (.rng1 a) ρ kI = xE ps a ρ fun v ρ1 => dV v fun d => iD d fun n => if -(2 ^ 62) ≤ n ∧ n < 2 ^ 62 then kI (rgD 0 n.toNat) ρ1 else none := by
  simp only [xE, xI, dV, iD, evI, Option.bind_assoc, bm, iteb]
  rfl
theorem xI_rng2 {a b : Ex} : xI ps (.rng2 a b) ρ kI = xE ps a ρ fun v ρ1 => dV v fun d => iD d fun m => xE ps b ρ1 fun w ρ2 => dV w fun e => iD e fun n => if (-(2 ^ 62) ≤ m ∧ m < 2 ^ 62) ∧ -(2 ^ 62) ≤ n ∧ n < 2 ^ 62 then kI (rgD m (n - m).toNat) ρ2 else none := by
  simp only [xE, xI, dV, iD, evI, Option.bind_assoc, bm, iteb]
  rfl
theorem xI_rng3 {a b c : Ex} : xI ps (.rng3 a b c) ρ kI = xE ps a ρ fun v ρ1 => dV v fun d => iD d fun m => xE ps b ρ1 fun w ρ2 => dV w fun e => iD e fun n => xE ps c ρ2 fun u ρ3 => dV u fun f => iD f fun o => if o = -1 ∧ (-(2 ^ 62) ≤ m ∧ m < 2 ^ 62) ∧ -(2 ^ 62) ≤ n ∧ n < 2 ^ 62 then kI (rdD m (m - n).toNat) ρ3 else none := by
  simp only [xE, xI, dV, iD, evI, Option.bind_assoc, bm, iteb]
  rfl
theorem xI_u {a : Ex} : xI ps (.u a) ρ kI = xE ps a ρ fun v ρ1 => dV v fun d => sD d fun ds => kI ds ρ1 := by
  simp only [xE, xI, dV, sD, evI, Option.bind_assoc, bm]
  refine bindE fun p _ => bindE fun d _ => ?_
  cases d <;> rfl
theorem xI_enl {a : Ex} : xI ps (.enl a) ρ kI = xE ps a ρ fun v ρ1 => dV v fun d => lD d fun ds => kI (enD ds) ρ1 := by
  simp only [xE, xI, dV, lD, evI, Option.bind_assoc, bm]
  refine bindE fun p _ => bindE fun d _ => ?_
  cases d <;> rfl
theorem xI_en {a : Ex} : xI ps (.en a) ρ kI = xE ps a ρ fun v ρ1 => dV v fun d => tD d fun ds => kI (enD ds) ρ1 := by
  simp only [xE, xI, dV, tD, evI, Option.bind_assoc, bm]
  refine bindE fun p _ => bindE fun d _ => ?_
  cases d <;> rfl
def lS (ds : List D) (j : Nat) (d : D) (kl : List D → Option β) : Option β := kl (ds.set j d)
theorem lS_0 {a d : D} {ds : List D} {kl : List D → Option β} : lS (a :: ds) 0 d kl = kl (d :: ds) := rfl
theorem lS_s {a d : D} {ds : List D} {j : Nat} {kl : List D → Option β} : lS (a :: ds) (j + 1) d kl = lS ds j d fun l => kl (a :: l) := rfl
theorem xG_nm {i : Nat} {d : D} : xG ps (.nm i) d ρ kn = sK ps ρ i (.dat d) kn := by
  simp only [xG, sK, setG, iteb]
  rfl
theorem xG_tup {n : Nat} {ts : EV.Tgs} {ds : List D} : xG ps (.tup n ts) (.tuple ds) ρ kn = if ds.length = n then xGs ps ts ds ρ kn else none := by
  simp only [xG, xGs, setG, iteb]
  rfl
theorem xGs_nil : xGs ps .nil [] ρ kn = kn ρ := rfl
theorem xGs_cons {t : EV.Tg} {ts : EV.Tgs} {d : D} {ds : List D} : xGs ps (.cons t ts) (d :: ds) ρ kn = xG ps t d ρ fun ρ1 => xGs ps ts ds ρ1 kn := by
  simp only [xG, xGs, setGs, Option.bind_assoc]
def sV (ps : List Nat) (ρ : Rho) (i : Nat) (v : Vl) (kn : Rho → Option β) : Option β := match v with
  | .d x => sK ps ρ i (.dat x) kn
  | .n ds => sK ps ρ i (.own (.lst ds)) kn
  | .w w => sK ps ρ i (.own w) kn
  | .o _ => none
theorem sV_d {i : Nat} {x : D} : sV ps ρ i (.d x) kn = sK ps ρ i (.dat x) kn := rfl
theorem sV_n {i : Nat} {x : List D} : sV ps ρ i (.n x) kn = sK ps ρ i (.own (.lst x)) kn := rfl
theorem sV_w {i : Nat} {x : Ow} : sV ps ρ i (.w x) kn = sK ps ρ i (.own x) kn := rfl
def rV (ps : List Nat) (ρ : Rho) (v : Vl) (ka : Out → Option β) : Option β := (retO ps ρ v).bind ka
theorem rV_d {x : D} : rV ps ρ (.d x) ka = ka (.rt ρ (.dat x)) := rfl
theorem rV_n {x : List D} : rV ps ρ (.n x) ka = ka (.rt ρ (.new (.lst x))) := rfl
theorem rV_w {x : Ow} : rV ps ρ (.w x) ka = ka (.rt ρ (.new x)) := rfl
theorem rV_o {i : Nat} : rV ps ρ (.o i) ka = gE ρ i fun e => eL e fun ds => sK ps ρ i .no fun ρ1 => ka (.rt ρ1 (.new (.lst ds))) := by
  unfold rV
  simp only [retO, sK, ← gL, Option.bind_assoc]
  refine bindE fun ds h => ?_
  rw [iteb]
  have := ownLt h
  by_cases hp : i ∉ ps
  · rw [if_pos hp, if_pos ⟨this, hp⟩]; rfl
  · rw [if_neg hp, if_neg (fun z => hp z.2)]; rfl
theorem xS_set {i : Nat} {e : Ex} : xS ps (.set i e) ρ kn ka = xE ps e ρ fun v ρ1 => sV ps ρ1 i v kn := by
  simp only [xS, xE, exS, Option.bind_assoc]
  refine bindE fun p _ => ?_
  obtain ⟨v, ρ1⟩ := p
  cases v <;> simp only [setV, sV, sK, iteb] <;> rfl
theorem xS_asg {e : Ex} {t : EV.Tg} : xS ps (.asg e t) ρ kn ka = xE ps e ρ fun v ρ1 => dV v fun d => xG ps t d ρ1 kn := by
  simp only [xS, xE, dV, xG, exS, Option.bind_assoc, bm]
  rfl
theorem xS_seti {i : Nat} {a e : Ex} : xS ps (.seti i a e) ρ kn ka = xE ps e ρ fun v ρ1 => dV v fun d => gE ρ1 i fun en => eL en fun _ => xE ps a ρ1 fun w ρ2 => dV w fun x => iD x fun n => gE ρ2 i fun en => eL en fun ds => nI ds.length n fun j => lS ds j d fun ds' => sR ρ2 i (.own (.lst ds')) kn := by
  simp only [xS, xE, dV, iD, nI, ← gL, exS, Option.bind_assoc, bm]
  refine bindE fun p _ => bindE fun d _ => bindE fun _ _ => bindE fun q _ => bindE fun _ _ => bindE fun _ _ => bindE fun ds h => bindE fun j _ => ?_
  show _ = sR q.2 i (.own (.lst (ds.set j d))) kn
  rw [sRp (ownLt h)]; rfl
theorem xS_app {i : Nat} {e : Ex} : xS ps (.app i e) ρ kn ka = gE ρ i fun en => eL en fun _ => xE ps e ρ fun v ρ1 => dV v fun d => gE ρ1 i fun en => eL en fun ds => if ds.length < sizeLine then sR ρ1 i (.own (.lst (ds ++ [d]))) kn else none := by
  simp only [xS, xE, dV, ← gL, exS, Option.bind_assoc, bm]
  refine bindE fun _ _ => bindE fun p _ => bindE fun d _ => bindE fun ds h => ?_
  rw [iteb, sRp (ownLt h)]; rfl
theorem xS_newD {i : Nat} : xS ps (.newD i) ρ kn ka = sK ps ρ i (.own (.dK [])) kn := by
  simp only [xS, sK, exS, iteb]
  rfl
theorem xS_dput {i : Nat} {a e : Ex} : xS ps (.dput i a e) ρ kn ka = xE ps e ρ fun v ρ1 => dV v fun d => gE ρ1 i fun en => eD en fun _ => xE ps a ρ1 fun w ρ2 => dV w fun x => kD x fun q => gE ρ2 i fun en => eD en fun kvs => if kvs.length < sizeLine then sR ρ2 i (.own (.dK (putD kvs q d))) kn else none := by
  simp only [xS, xE, dV, kD, ← gD, exS, Option.bind_assoc, bm]
  refine bindE fun p _ => bindE fun d _ => bindE fun _ _ => bindE fun q _ => bindE fun _ _ => bindE fun _ _ => bindE fun ds h => ?_
  rw [iteb, sRp (ownDt h)]; rfl
theorem xS_drop {e : Ex} : xS ps (.drop e) ρ kn ka = xE ps e ρ fun v ρ1 => dV v fun _ => kn ρ1 := by
  simp only [xS, xE, dV, exS, Option.bind_assoc, bm]
  rfl
theorem xS_ret {e : Ex} : xS ps (.ret e) ρ kn ka = xE ps e ρ fun v ρ1 => rV ps ρ1 v ka := by
  simp only [xS, xE, rV, exS, Option.bind_assoc]
  refine bindE fun p _ => ?_
  obtain ⟨v, ρ1⟩ := p
  cases v with
  | d x => rfl
  | n x => rfl
  | w x => rfl
  | o i =>
    simp only [retO, Option.bind_assoc]
    refine bindE fun ds h => ?_
    rw [iteb, iteb]
    rfl
theorem xE_callX {f : List D → Option RetX} {as : Exs} : xE ps (.callX f as) ρ k = xA ps as ρ fun As ρ1 => dA As fun ds => cX f ds (fun d => k (.d d) ρ1) fun _ => none := by
  simp only [xE, xA, dA, cX, evE, Option.bind_assoc]
  refine bindE fun p _ => bindE fun ds _ => bindE fun r _ => ?_
  cases r with
  | ok r => cases r <;> rfl
  | exc C => rfl
theorem gF {ρ : Rho} {i : Nat} {f : List (Key × D) → Option β} : (ownF ρ i).bind f = gE ρ i fun e => eF e f := by
  unfold ownF gE eF
  cases h : ρ[i]? with
  | none => rfl
  | some e =>
    cases e with
    | own w => cases w <;> rfl
    | _ => rfl
theorem ownFt {ds : List (Key × D)} {i : Nat} (h : ownF ρ i = some ds) : i < ρ.length := (List.getElem?_eq_some_iff.mp (ownF_eq h)).1
def s2D (d x : D) (k : Str → Str → Option β) : Option β := match d, x with
  | .str y, .str z => k y z
  | _, _ => none
theorem s2D_s {y z : Str} {k : Str → Str → Option β} : s2D (.str y) (.str z) k = k y z := rfl
theorem xE_srs {a : Ex} : xE ps (.srs a) ρ k = xE ps a ρ fun v ρ1 => dV v fun d => tD d fun ds => (srsD ds).bind fun zs => k (.n (zs.map .int)) ρ1 := by
  simp only [xE, dV, tD, evE, Option.bind_assoc]
  refine bindE fun p _ => bindE fun d _ => ?_
  cases d with
  | tuple ds =>
    show ((srsD ds).map _).bind _ = _
    rw [Option.bind_map]
    rfl
  | _ => rfl
theorem xE_revT {a : Ex} : xE ps (.revT a) ρ k = xE ps a ρ fun v ρ1 => dV v fun d => tD d fun ds => k (.d (.tuple ds.reverse)) ρ1 := by
  simp only [xE, dV, tD, evE, Option.bind_assoc]
  refine bindE fun p _ => bindE fun d _ => ?_
  cases d <;> rfl
theorem xE_revL {a : Ex} : xE ps (.revL a) ρ k = xE ps a ρ fun v ρ1 => aV v fun A => nA A ρ1 fun d => lD d fun ds => k (.n ds.reverse) ρ1 := by
  simp only [xE, aV, nA, lD, evE, Option.bind_assoc]
  refine bindE fun p _ => bindE fun A _ => bindE fun d _ => ?_
  cases d <;> rfl
theorem xE_sw {e : Bool} {a b : Ex} : xE ps (.sw e a b) ρ k = xE ps a ρ fun v ρ1 => dV v fun d => xE ps b ρ1 fun w ρ2 => dV w fun x => s2D d x fun y z => k (.d (.bool (if e then Txt.endswith y z else Txt.startswith y z))) ρ2 := by
  simp only [xE, dV, evE, Option.bind_assoc]
  refine bindE fun p _ => bindE fun d _ => bindE fun q _ => bindE fun x _ => ?_
  cases d <;> first | rfl | (cases x <;> rfl)
def strD (d : D) (k : Str → Option β) : Option β := match d with
  | .str x => k x
  | _ => none
theorem strD_s {x : Str} {k : Str → Option β} : strD (.str x) k = k x := rfl
theorem xE_allIn {cs : Str} {a : Ex} : xE ps (.allIn cs a) ρ k = xE ps a ρ fun v ρ1 => dV v fun d => strD d fun x => k (.d (.bool (x.cps.toList.all (oneIn cs)))) ρ1 := by
  simp only [xE, dV, evE, Option.bind_assoc]
  refine bindE fun p _ => bindE fun d _ => ?_
  cases d <;> rfl
theorem xE_inC {n : Bool} {xs : List Str} {a : Ex} : xE ps (.inC n xs a) ρ k = xE ps a ρ fun v ρ1 => dV v fun d => strD d fun x => k (.d (.bool (if n then !decide (x ∈ xs) else decide (x ∈ xs)))) ρ1 := by
  simp only [xE, dV, evE, Option.bind_assoc]
  refine bindE fun p _ => bindE fun d _ => ?_
  cases d <;> rfl
theorem xE_isB {n b : Bool} {a : Ex} : xE ps (.isB n b a) ρ k = xE ps a ρ fun v ρ1 => dV v fun d => bD d fun x => k (.d (.bool (if n then !decide (x = b) else decide (x = b)))) ρ1 := by
  simp only [xE, dV, bD, evE, Option.bind_assoc, bm]
theorem xE_lget {i : Nat} {a : Ex} : xE ps (.lget i a) ρ k = gE ρ i fun e => eF e fun _ => xE ps a ρ fun v ρ1 => dV v fun d => kD d fun q => gE ρ1 i fun e => eF e fun kvs => vK kvs q fun d => k (.d d) ρ1 := by
  simp only [xE, dV, kD, vK, ← gF, evE, Option.bind_assoc, bm]
theorem xE_dget2 {i : Nat} {a b : Ex} : xE ps (.dget2 i a b) ρ k = gE ρ i fun e => eD e fun _ => xE ps a ρ fun v ρ1 => dV v fun d => kD d fun q => xE ps b ρ1 fun w ρ2 => dV w fun z => gE ρ2 i fun e => eD e fun kvs => k (.d ((valD kvs q).getD z)) ρ2 := by
  simp only [xE, dV, kD, ← gD, evE, Option.bind_assoc, bm]
theorem xT_tl {a : Ex} : xT ps (.tl a) ρ kT = xE ps a ρ fun v ρ1 => aV v fun A => nA A ρ1 fun d => lD d fun ds => kT (!ds.isEmpty) ρ1 := by
  simp only [xE, xT, aV, nA, lD, evT, Option.bind_assoc]
  refine bindE fun p _ => bindE fun _ _ => bindE fun d _ => ?_
  cases d <;> rfl
theorem xI_ky {i : Nat} : xI ps (.ky i) ρ kI = gE ρ i fun e => eF e fun kvs => kI (kvs.map fun p => keyOf p.1) ρ := by
  simp only [xI, ← gF, evI, Option.bind_assoc, bm]
theorem xS_lk0 {i : Nat} {s : EV.St} : xS [] (.lk i s) ρ kn ka = gE ρ i fun e => eD e fun kvs => sR ρ i (.own (.dF kvs)) fun ρ1 => xS [i] s ρ1 (fun ρ' => gE ρ' i fun e => eF e fun kvs' => sR ρ' i .no fun ρ'' => if noF ρ'' = true then sR ρ' i (.own (.dK kvs')) kn else none) fun _ => none := by
  simp only [xS, ← gD, ← gF, exS, Option.bind_assoc]
  refine bindE fun kvs h => ?_
  rw [if_neg (by simp), sRp (ownDt h), Option.bind_assoc]
  refine bindE fun o _ => ?_
  cases o with
  | nx ρ' =>
    change ((ownF ρ' i).bind _).bind _ = (ownF ρ' i).bind _
    rw [Option.bind_assoc]
    refine bindE fun kvs' h' => ?_
    rw [sRp (ownFt h'), sRp (ownFt h')]
    split <;> rfl
  | _ => rfl
theorem xS_mv0 {i j : Nat} : xS [] (.mv i j) ρ kn ka = gE ρ j fun e => eD e fun kvs => sR ρ j .no fun ρ1 => sR ρ1 i (.own (.dK kvs)) kn := by
  simp only [xS, ← gD, exS, Option.bind_assoc]
  refine bindE fun kvs h => ?_
  rw [sRp (ownDt h)]
  unfold sR
  rw [List.length_set]
  by_cases q : i < ρ.length
  · rw [if_pos q, if_pos ⟨q, by simp, by simp⟩]; rfl
  · rw [if_neg q, if_neg fun z => q z.1]; rfl
theorem xS_aug {i : Nat} {e : Ex} : xS ps (.aug i e) ρ kn ka = gE ρ i fun en => tE en fun d => iD d fun m => xE ps e ρ fun v ρ1 => dV v fun d => iD d fun n => sK ps ρ1 i (.dat (.int (m + n))) kn := by
  have t : ∀ f : D → Option β, ((match ρ[i]? with
      | some (.dat d) => some d
      | _ => none).bind f) = gE ρ i fun en => tE en f := fun f => by
    unfold gE tE
    cases h : ρ[i]? with
    | none => rfl
    | some e => cases e <;> rfl
  simp only [xS, xE, dV, iD, sK, ← t, exS, Option.bind_assoc, iteb]
  rfl
section
variable {kv : Vl → Rho → Option β} {kx : Addr → Rho → Option β} {ko : Out → Option β}
theorem xR_x {f : List D → Option RetX} {as : Exs} : xR ps (.x f as) ρ kv kx = xA ps as ρ fun As ρ1 => dA As fun ds => cX f ds (fun d => kv (.d d) ρ1) fun C => kx C ρ1 := by
  simp only [xR, xA, dA, cX, evR, Option.bind_assoc]
  refine bindE fun p _ => bindE fun ds _ => bindE fun r _ => ?_
  cases r with
  | ok r => cases r <;> rfl
  | exc C => rfl
theorem xR_call {f : List D → Option RetV} {a : RE} : xR ps (.call f a) ρ kv kx = xR ps a ρ (fun v ρ1 => aV v fun A => dA [A] fun ds => cK f ds fun v => kv v ρ1) kx := by
  simp only [xR, aV, dA, cK, evR, Option.bind_assoc]
  refine bindE fun r _ => ?_
  cases r with
  | inl p =>
    simp only [Option.bind_assoc, bm]
  | inr q => rfl
theorem xR_lst {a : RE} : xR ps (.lst a) ρ kv kx = xR ps a ρ (fun v ρ1 => aV v fun A => dA [A] fun ds => if ds.length ≤ sizeLine then kv (.n ds) ρ1 else none) kx := by
  simp only [xR, aV, dA, evR, Option.bind_assoc]
  refine bindE fun r _ => ?_
  cases r with
  | inl p =>
    simp only [Option.bind_assoc]
    refine bindE fun A _ => bindE fun ds _ => ?_
    split <;> rfl
  | inr q => rfl
theorem xR_e {e : Ex} : xR ps (.e e) ρ kv kx = xE ps e ρ kv := by
  simp only [xR, xE, evR]
  cases evE ps e ρ <;> rfl
theorem xB_ret {e : RE} : xB ps (.ret e) ρ ko kx = xR ps e ρ (fun v ρ1 => rV ps ρ1 v ko) kx := by
  simp only [xB, xR, evB, rV, Option.bind_assoc]
  refine bindE fun r _ => ?_
  cases r with
  | inr q => rfl
  | inl p =>
    obtain ⟨v, ρ1⟩ := p
    cases v with
    | d x => rfl
    | n x => rfl
    | w x => rfl
    | o i =>
      simp only [retO, Option.bind_assoc]
      refine bindE fun ds h => ?_
      split <;> rfl
theorem xB_iff {t : Tx} {a b : TB} : xB ps (.iff t a b) ρ ko kx = xT ps t ρ fun x ρ1 => if x = true then xB ps a ρ1 ko kx else xB ps b ρ1 ko kx := by
  simp only [xB, xT, evB, Option.bind_assoc]
  refine bindE fun p _ => ?_
  cases p.1 <;> rfl
def oB (ps : List Nat) (b : TB) (ko : Out → Option β) (kx : Addr → Rho → Option β) (o : Out) : Option β := match o with
  | .nx ρ1 => xB ps b ρ1 ko kx
  | o => ko o
theorem xB_sif {t : Tx} {a b : TB} : xB ps (.sif t a b) ρ ko kx = xT ps t ρ fun x ρ1 => if x = true then xB ps a ρ1 (oB ps b ko kx) kx else xB ps b ρ1 ko kx := by
  simp only [xB, oB, xT, evB, Option.bind_assoc]
  refine bindE fun p _ => ?_
  cases p.1
  · rfl
  · simp only [if_true, Option.bind_assoc]
    refine bindE fun o _ => ?_
    cases o <;> rfl
theorem xB_dr {e : RE} : xB ps (.dr e) ρ ko kx = xR ps e ρ (fun v ρ1 => dV v fun _ => ko (.nx ρ1)) kx := by
  simp only [xB, xR, dV, evB, Option.bind_assoc]
  refine bindE fun r _ => ?_
  cases r with
  | inr q => rfl
  | inl p => simp only [bm]
/-- a clause takes it -/
def hN (S : Addr) (cs : List Addr) (hs : List (Addr × Hx)) (i : Nat) (ps : List Nat) (ka : Out → Option β) (C : Addr) (ρ1 : Rho) : Option β := if C ∈ cs ∧ i < ρ1.length ∧ i ∉ ps then (evHs S C hs).bind fun d => ka (.rt (ρ1.set i .no) (.dat d)) else none
def oN (kn : Rho → Option β) (ka : Out → Option β) (o : Out) : Option β := match o with
  | .nx ρ1 => kn ρ1
  | o => ka o
theorem xS_tryN {b : TB} {i : Nat} {S : Addr} {cs : List Addr} {hs : List (Addr × Hx)} : xS ps (.tryN b i S cs hs) ρ kn ka = xB ps b ρ (oN kn ka) (hN S cs hs i ps ka) := by
  simp only [xS, xB, oN, hN, exS, Option.bind_assoc]
  refine bindE fun o _ => ?_
  cases o with
  | ex C ρ' =>
    show Option.bind (if C ∈ cs ∧ i < ρ'.length ∧ i ∉ ps then _ else none) _ = if C ∈ cs ∧ i < ρ'.length ∧ i ∉ ps then _ else none
    by_cases z : C ∈ cs ∧ i < ρ'.length ∧ i ∉ ps
    · rw [if_pos z, if_pos z]; exact bm
    · rw [if_neg z, if_neg z]; rfl
  | _ => rfl
theorem xS_tryK {b : TB} {i : Nat} {S : Addr} {kd : List (Addr × Str)} {tbl : List (Addr × List Str)} : xS ps (.tryK b i S kd tbl) ρ kn ka = xB ps b ρ (fun o => match o with | .rt ρ' r => ka (.rt ρ' r) | _ => none) fun C ρ1 => (tblN tbl C).bind fun ws => if i < ρ1.length then ka (.rt ρ1 (.new (.lst (ws.map .str)))) else none := by
  simp only [xS, xB, exS, Option.bind_assoc]
  refine bindE fun o _ => ?_
  cases o with
  | rt ρ' r => rfl
  | ex C ρ' =>
    simp only [Option.bind_assoc]
    refine bindE fun ws _ => ?_
    split <;> rfl
  | _ => rfl
end
theorem xS_never : xS ps .never ρ kn ka = none := rfl
theorem xS_raise {C : Addr} : xS ps (.raise C) ρ kn ka = ka (.ex C ρ) := rfl
theorem xS_dropX {f : List D → Option RetX} {as : Exs} : xS ps (.dropX f as) ρ kn ka = xA ps as ρ fun As ρ1 => dA As fun ds => cX f ds (fun _ => kn ρ1) fun C => ka (.ex C ρ1) := by
  simp only [xS, xA, dA, cX, exS, Option.bind_assoc]
  refine bindE fun p _ => bindE fun ds _ => bindE fun r _ => ?_
  cases r with
  | ok r => cases r <;> rfl
  | exc C => rfl
theorem xS_tryC {f : List D → Option RetX} {as : Exs} {C S : Addr} {i : Nat} {cs : List Addr} : xS ps (.tryC f as C i S cs) ρ kn ka = xA ps as ρ fun As ρ1 => dA As fun ds => cX f ds (fun _ => kn ρ1) fun C' => if C' = C ∧ i < ρ1.length then ka (.rt ρ1 (.dat (.bool true))) else none := by
  simp only [xS, xA, dA, cX, exS, Option.bind_assoc]
  refine bindE fun p _ => bindE fun ds _ => bindE fun r _ => ?_
  cases r with
  | ok r => cases r <;> rfl
  | exc C' =>
    change ((if C' = C ∧ i < p.2.length then _ else _) : Option Out).bind _ = (if C' = C ∧ i < p.2.length then _ else _)
    by_cases q : C' = C ∧ i < p.2.length
    · rw [if_pos q, if_pos q]; rfl
    · rw [if_neg q, if_neg q]; rfl
theorem xS_retN : xS ps .retN ρ kn ka = ka (.rt ρ (.dat .none)) := rfl
theorem xS_iff {t : Tx} {a b : EV.St} : xS ps (.iff t a b) ρ kn ka = xT ps t ρ fun x ρ1 => if x = true then xS ps a ρ1 kn ka else xS ps b ρ1 kn ka := by
  simp only [xS, xT, exS, Option.bind_assoc, iteb]
theorem xS_for {it : Ix} {t : EV.Tg} {b : EV.St} : xS ps (.for it t b) ρ kn ka = xI ps it ρ fun l ρ1 => fK (trn ps t b) l ρ1 fun o => kS o kn ka := by
  simp only [xS, xI, fK, exS, Option.bind_assoc]
  rfl
theorem xS_wh {n : Nat} {t : Tx} {b : EV.St} : xS ps (.wh n t b) ρ kn ka = wK t b ps n ρ fun o => kS o kn ka := by
  simp only [xS, wK, exS]
theorem xS_brk : xS ps .brk ρ kn ka = ka (.bk ρ) := rfl
theorem xS_cont : xS ps .cont ρ kn ka = ka (.ct ρ) := rfl
theorem xS_nx : xS ps .nx ρ kn ka = kn ρ := rfl
theorem xS_seq {a b : EV.St} : xS ps (.seq a b) ρ kn ka = xS ps a ρ (fun ρ1 => xS ps b ρ1 kn ka) ka := by
  simp only [xS, exS, Option.bind_assoc]
  refine bindE fun o _ => ?_
  cases o <;> rfl
def fzK (i : Nat) (e : Ent) (ρ : Rho) (ps : List Nat) (s : EV.St) (kn : Rho → Option β) (ka : Out → Option β) : Option β := match e with
  | .own (.lst ds) => sK ps ρ i (.dat (.list ds)) fun ρ1 => xS ps s ρ1 kn ka
  | _ => xS ps s ρ kn ka
theorem fzK_l {i : Nat} {ds : List D} {s : EV.St} : fzK i (.own (.lst ds)) ρ ps s kn ka = sK ps ρ i (.dat (.list ds)) fun ρ1 => xS ps s ρ1 kn ka := rfl
theorem fzK_d {i : Nat} {d : D} {s : EV.St} : fzK i (.dat d) ρ ps s kn ka = xS ps s ρ kn ka := rfl
theorem fzK_n {i : Nat} {s : EV.St} : fzK i .no ρ ps s kn ka = xS ps s ρ kn ka := rfl
theorem fzK_D {i : Nat} {s : EV.St} {kvs : List (Key × D)} : fzK i (.own (.dK kvs)) ρ ps s kn ka = xS ps s ρ kn ka := rfl
theorem xS_retD {i : Nat} (hp : i ∉ ps := by simp) : xS ps (.retD i) ρ kn ka = gE ρ i fun e => eD e fun kvs => ka (.rt (ρ.set i .no) (.new (.dK kvs))) := by
  simp only [xS, ← gD, exS, Option.bind_assoc, if_neg hp]
  rfl
def fzKD (i : Nat) (e : Ent) (ρ : Rho) (ps : List Nat) (s : EV.St) (kn : Rho → Option β) (ka : Out → Option β) : Option β := match e with
  | .own (.dK kvs) => sK ps ρ i (.dat (.dict (kvE kvs))) fun ρ1 => xS ps s ρ1 kn ka
  | _ => xS ps s ρ kn ka
theorem fzKD_D {i : Nat} {kvs : List (Key × D)} {s : EV.St} : fzKD i (.own (.dK kvs)) ρ ps s kn ka = sK ps ρ i (.dat (.dict (kvE kvs))) fun ρ1 => xS ps s ρ1 kn ka := rfl
theorem fzKD_d {i : Nat} {d : D} {s : EV.St} : fzKD i (.dat d) ρ ps s kn ka = xS ps s ρ kn ka := rfl
theorem xS_fzD {i : Nat} {s : EV.St} (hi : i < ρ.length) : xS ps (.fzD i s) ρ kn ka = gE ρ i fun e => fzKD i e ρ ps s kn ka := by
  have h : ρ[i]? = some ρ[i] := List.getElem?_eq_getElem hi
  unfold gE
  rw [h]
  unfold xS
  simp only [exS, h]
  show _ = fzKD i ρ[i] ρ ps s kn ka
  cases ρ[i] with
  | own w =>
    cases w with
    | dK ds =>
      show Option.bind (if i ∈ ps then none else exS ps s (List.set ρ i (.dat (.dict (kvE ds))))) (fun o => kS o kn ka) = sK ps ρ i (.dat (.dict (kvE ds))) fun ρ1 => (exS ps s ρ1).bind fun o => kS o kn ka
      unfold sK
      by_cases hp : i ∈ ps
      · rw [if_pos hp, if_neg (fun z => z.2 hp)]; try rfl
      · rw [if_neg hp, if_pos ⟨hi, hp⟩]; try rfl
    | _ => rfl
  | _ => rfl
theorem xS_fz {i : Nat} {s : EV.St} (hi : i < ρ.length) : xS ps (.fz i s) ρ kn ka = gE ρ i fun e => fzK i e ρ ps s kn ka := by
  have h : ρ[i]? = some ρ[i] := List.getElem?_eq_getElem hi
  unfold gE
  rw [h]
  unfold xS
  simp only [exS, h]
  show _ = fzK i ρ[i] ρ ps s kn ka
  cases ρ[i] with
  | own w =>
    cases w with
    | lst ds =>
      show Option.bind (if i ∈ ps then none else exS ps s (List.set ρ i (.dat (.list ds)))) (fun o => kS o kn ka) = sK ps ρ i (.dat (.list ds)) fun ρ1 => (exS ps s ρ1).bind fun o => kS o kn ka
      unfold sK
      by_cases hp : i ∈ ps
      · rw [if_pos hp, if_neg (fun z => z.2 hp)]; try rfl
      · rw [if_neg hp, if_pos ⟨hi, hp⟩]; try rfl
    | _ => rfl
  | _ => rfl
theorem kS_nx : kS (.nx ρ) kn ka = kn ρ := rfl
theorem kS_rt {r : RetV} : kS (.rt ρ r) kn ka = ka (.rt ρ r) := rfl
theorem kS_bk : kS (.bk ρ) kn ka = ka (.bk ρ) := rfl
theorem kS_ct : kS (.ct ρ) kn ka = ka (.ct ρ) := rfl
theorem cK_s {f : List D → Option RetV} {ds : List D} {r : RetV} {kv : Vl → Option β} (h : f ds = some r) : cK f ds kv = kv (rvV r) := by unfold cK; rw [h]; rfl
theorem cX_ok {f : List D → Option RetX} {ds : List D} {d : D} {kd : D → Option β} {kx : Addr → Option β} (h : f ds = some (.ok (.dat d))) : cX f ds kd kx = kd d := by unfold cX; rw [h]; rfl
theorem cX_ex {f : List D → Option RetX} {ds : List D} {C : Addr} {kd : D → Option β} {kx : Addr → Option β} (h : f ds = some (.exc C)) : cX f ds kd kx = kx C := by unfold cX; rw [h]; rfl
theorem cKS_s {f : List D → List D → Option (RetV × List D)} {st st' ds : List D} {r : RetV} {kv : Vl → List D → Option β} (h : f st ds = some (r, st')) : cKS f st ds kv = kv (rvV r) st' := by unfold cKS; rw [h]; rfl
theorem fK_s {f : D → Rho → Option Out} {l : List D} {o : Out} (h : forGo f l ρ = some o) : fK f l ρ kO = kO o := by unfold fK; rw [h]; rfl
theorem lK_s {f : D → Rho → Option (Option D × Rho)} {l ds : List D} {kl : List D → Rho → Option β} (h : lcGo f l ρ = some (ds, ρ')) : lK f l ρ kl = kl ds ρ' := by unfold lK; rw [h]; rfl
end
theorem okI {β : Type} {c : Prop} [Decidable c] {x : Option β} (h : c) : (if c then x else none) = x := if_pos h
theorem okI2 {β : Type} {c d : Prop} [Decidable c] [Decidable d] {x : Option β} (h : c) (h2 : d) : (if c ∧ d then x else none) = x := if_pos ⟨h, h2⟩
/-- what follows a turn -/
def aft (f : D → Rho → Option Out) (l : List D) (o : Out) : Option Out := match o with
  | .nx ρ1 => forGo f l ρ1
  | .ct ρ1 => forGo f l ρ1
  | .bk ρ1 => some (.nx ρ1)
  | .rt ρ1 r => some (.rt ρ1 r)
  | .ex C ρ1 => some (.ex C ρ1)
theorem aft_bk {f : D → Rho → Option Out} {l : List D} {ρ : Rho} : aft f l (.bk ρ) = some (.nx ρ) := rfl
theorem forGo_x {ps : List Nat} {t : EV.Tg} {b : EV.St} {x : D} {l : List D} {ρ : Rho} : forGo (trn ps t b) (x :: l) ρ = xG ps t x ρ fun ρ1 => xS ps b ρ1 (fun ρ => forGo (trn ps t b) l ρ) (aft (trn ps t b) l) := by
  show (trn ps t b x ρ).bind (aft (trn ps t b) l) = _
  unfold trn xG xS
  rw [Option.bind_assoc]
  congr 1
  funext ρ1
  congr 1
  funext o
  cases o <;> rfl
theorem trn_x {ps : List Nat} {t : EV.Tg} {b : EV.St} {x : D} {ρ : Rho} : trn ps t b x ρ = xG ps t x ρ fun ρ1 => xS ps b ρ1 (fun ρ => some (.nx ρ)) some := by
  simp only [trn, xG, xS]
  refine bindE fun ρ1 _ => ?_
  cases exS ps b ρ1 with
  | none => rfl
  | some o => cases o <;> rfl
theorem ltn_x {ps : List Nat} {j : Nat} {t : Tx} {e : Ex} {x : D} {ρ : Rho} : ltn ps j t e x ρ = sR ρ j (.dat x) fun ρ1 => xT ps t ρ1 fun b ρ2 => if b = true then xE ps e ρ2 fun v ρ3 => dV v fun d => sN ρ3 j fun ρ4 => some (some d, ρ4) else sN ρ2 j fun ρ4 => some (none, ρ4) := by
  simp only [ltn, sR, xT, xE, dV]
  split
  · refine bindE fun q _ => ?_
    split
    · refine bindE fun r _ => ?_
      cases toD r.1 <;> rfl
    · rfl
  · rfl
def tw2 (x : D) (kd : D → D → Option β) : Option β := (two x).bind fun p => kd p.1 p.2
theorem tw2_t {a b : D} {kd : D → D → Option β} : tw2 (.tuple [a, b]) kd = kd a b := rfl
theorem runD_x {st : EV.St} {m n : Nat} {ds : List D} (h : ds.length = m) : runD st m n ds = xS [] st (ds.map .dat ++ List.replicate (n - ds.length) .no) (fun _ => some (.dat .none)) out1 := by
  unfold runD xS
  rw [if_pos h]
  refine bindE fun o _ => ?_
  cases o <;> rfl
theorem runX_x {st : EV.St} {m n : Nat} {ds : List D} (h : ds.length = m) : runX st m n ds = xS [] st (ds.map .dat ++ List.replicate (n - ds.length) .no) (fun _ => some (.ok (.dat .none))) out3 := by
  unfold runX xS
  rw [if_pos h]
  refine bindE fun o _ => ?_
  cases o <;> rfl
theorem runS_x {st : EV.St} {m n : Nat} {s0 ds : List D} (h : ds.length + 1 = m) : runS st m n s0 ds = xS [0] st ((.own (.lst s0) :: ds.map .dat) ++ List.replicate (n - (ds.length + 1)) .no) (fun ρ => gE ρ 0 fun e => eL e fun s => some (.dat .none, s)) out2 := by
  unfold runS xS
  rw [if_pos h]
  refine bindE fun o _ => ?_
  cases o with
  | nx ρ =>
    show (ownL ρ 0).map _ = gE ρ 0 _
    rw [← gL]
    cases ownL ρ 0 <;> rfl
  | _ => rfl
theorem out1_rt {ρ : Rho} {r : RetV} : out1 (.rt ρ r) = some r := rfl
theorem out2_rt {ρ : Rho} {r : RetV} : out2 (.rt ρ r) = gE ρ 0 fun e => eL e fun s => some (r, s) := by
  show (ownL ρ 0).map _ = gE ρ 0 _
  rw [← gL]
  cases ownL ρ 0 <;> rfl
theorem forGo_inv {f : D → Rho → Option Out} (I : Nat → Rho) : ∀ (l : List D) (i0 : Nat), (∀ i, i < l.length → f (nthD l i) (I (i0 + i)) = some (.nx (I (i0 + i + 1))) ∨ f (nthD l i) (I (i0 + i)) = some (.ct (I (i0 + i + 1)))) → forGo f l (I i0) = some (.nx (I (i0 + l.length)))
  | [], _, _ => rfl
  | x :: xs, i0, h => by
    have h0 := h 0 (by simp)
    have step : forGo f (x :: xs) (I i0) = forGo f xs (I (i0 + 1)) := by
      rcases h0 with h0 | h0
      · show (f x (I i0)).bind _ = _
        rw [show f x (I i0) = _ from h0]; rfl
      · show (f x (I i0)).bind _ = _
        rw [show f x (I i0) = _ from h0]; rfl
    rw [step, forGo_inv I xs (i0 + 1) fun i hi => ?_]
    · rw [List.length_cons, Nat.add_assoc, Nat.add_comm 1]
    · have := h (i + 1) (by simpa using hi)
      rw [show i0 + 1 + i = i0 + (i + 1) by omega]
      exact this
theorem for_inv {f : D → Rho → Option Out} (I : Nat → Rho) {l : List D} {ρ ρ' : Rho} (h0 : I 0 = ρ) (h1 : I l.length = ρ') (h : ∀ i, i < l.length → f (nthD l i) (I i) = some (.nx (I (i + 1)))) : forGo f l ρ = some (.nx ρ') := by
  have := forGo_inv (f := f) I l 0 fun i hi => .inl (by rw [Nat.zero_add]; exact h i hi)
  rw [← h0, this, ← h1, Nat.zero_add]
/-- .. whose turns take one environment to the next -/
theorem lc_inv {f : D → Rho → Option (Option D × Rho)} (I : Nat → Rho) (G : Nat → D) : ∀ (l : List D) (i0 : Nat), (∀ i, i < l.length → f (nthD l i) (I (i0 + i)) = some (some (G (i0 + i)), I (i0 + i + 1))) → lcGo f l (I i0) = some ((List.range l.length).map (fun i => G (i0 + i)), I (i0 + l.length))
  | [], _, _ => rfl
  | x :: xs, i0, h => by
    have h0 := h 0 (by simp)
    show (f x (I i0)).bind _ = _
    rw [show f x (I i0) = _ from h0]
    show (lcGo f xs (I (i0 + 1))).bind _ = _
    rw [lc_inv I G xs (i0 + 1) fun i hi => ?_]
    · rw [List.length_cons, List.range_succ_eq_map, List.map_cons, List.map_map]
      simp only [Option.bind_some, Option.some.injEq, Prod.mk.injEq, List.cons.injEq, Nat.add_zero, true_and]
      refine ⟨List.map_congr_left fun i _ => ?_, by rw [show i0 + 1 + xs.length = i0 + (xs.length + 1) by omega]⟩
      simp only [Function.comp]
      rw [show i0 + 1 + i = i0 + (i + 1) by omega]
    · have := h (i + 1) (by simpa using hi)
      rw [show i0 + 1 + i = i0 + (i + 1) by omega]
      exact this
theorem lc_inv0 {f : D → Rho → Option (Option D × Rho)} (I : Nat → Rho) (G : Nat → D) {l : List D} {ρ ρ' : Rho} (h0 : I 0 = ρ) (h1 : I l.length = ρ') (h : ∀ i, i < l.length → f (nthD l i) (I i) = some (some (G i), I (i + 1))) : lcGo f l ρ = some ((List.range l.length).map G, ρ') := by
  have := lc_inv (f := f) I G l 0 fun i hi => by rw [Nat.zero_add]; exact h i hi
  rw [← h0, this, ← h1, Nat.zero_add]
  congr 2
  exact List.map_congr_left fun i _ => by rw [Nat.zero_add]
/-- the classes of errors -/
structure Cl where
  na : Addr
  tl : Addr
  mi : Addr
  bp : Addr
  bf : Addr
  br : Addr
  se : Addr
  fa : Nat → Addr
end EV
namespace CS
open PySem PySem.Spec PyProof.Rows L2 DL EV
def b_l_stream_1 : EV.St :=
  .seq (.app 1 (.op .mod (.cb .int (.cons (.var 3) (.nil))) (.int 1009))) (.seq (.set 3 (.op .fdiv (.var 3) (.int 1009))) (.iff (.te (.op .eq (.var 3) (.int 0))) (.brk) (.nx)))
theorem u_b_l_stream_1 {β : Type} (ps : List Nat) (ρ : Rho) (kn : Rho → Option β) (ka : Out → Option β) : xS ps b_l_stream_1 ρ kn ka = xS ps (.seq (.app 1 (.op .mod (.cb .int (.cons (.var 3) (.nil))) (.int 1009))) (.seq (.set 3 (.op .fdiv (.var 3) (.int 1009))) (.iff (.te (.op .eq (.var 3) (.int 0))) (.brk) (.nx)))) ρ kn ka := rfl
def b_l_stream_3 : EV.St :=
  .seq (.set 5 (.op .mod (.cb .int (.cons (.op .add (.op .add (.op .mul (.var 5) (.int 48271)) (.op .mul (.int 7) (.var 4))) (.int 11)) (.nil))) (.int 2147483647))) (.app 1 (.op .mod (.op .mod (.cb .int (.cons (.op .add (.op .mul (.var 5) (.int 69621)) (.var 4)) (.nil))) (.int 2147483629)) (.int 1009)))
theorem u_b_l_stream_3 {β : Type} (ps : List Nat) (ρ : Rho) (kn : Rho → Option β) (ka : Out → Option β) : xS ps b_l_stream_3 ρ kn ka = xS ps (.seq (.set 5 (.op .mod (.cb .int (.cons (.op .add (.op .add (.op .mul (.var 5) (.int 48271)) (.op .mul (.int 7) (.var 4))) (.int 11)) (.nil))) (.int 2147483647))) (.app 1 (.op .mod (.op .mod (.cb .int (.cons (.op .add (.op .mul (.var 5) (.int 69621)) (.var 4)) (.nil))) (.int 2147483629)) (.int 1009)))) ρ kn ka := rfl
def b_l_stream_5 : EV.St :=
  .seq (.set 3 (.cb .abs (.cons (.cb .int (.cons (.var 2) (.nil))) (.nil)))) (.iff (.te (.op .ge (.var 3) (.op .pow (.int 10) (.int 18)))) (.for (.rng1 (.int 60)) (.nm 4) b_l_stream_1) (.seq (.set 5 (.op .mod (.cb .int (.cons (.var 3) (.nil))) (.int 2147483647))) (.for (.rng1 (.int 10)) (.nm 4) b_l_stream_3)))
theorem u_b_l_stream_5 {β : Type} (ps : List Nat) (ρ : Rho) (kn : Rho → Option β) (ka : Out → Option β) : xS ps b_l_stream_5 ρ kn ka = xS ps (.seq (.set 3 (.cb .abs (.cons (.cb .int (.cons (.var 2) (.nil))) (.nil)))) (.iff (.te (.op .ge (.var 3) (.op .pow (.int 10) (.int 18)))) (.for (.rng1 (.int 60)) (.nm 4) b_l_stream_1) (.seq (.set 5 (.op .mod (.cb .int (.cons (.var 3) (.nil))) (.int 2147483647))) (.for (.rng1 (.int 10)) (.nm 4) b_l_stream_3)))) ρ kn ka := rfl
def c_l_stream : EV.St :=
  .seq (.set 1 (.lst (.nil))) (.seq (.for (.u (.sl (.var 0) (.no) (.at (.int 63)))) (.nm 2) b_l_stream_5) (.seq (.iff (.te (.op .eq (.cb .len (.cons (.var 1) (.nil))) (.int 0))) (.app 1 (.int 0)) (.nx)) (.ret (.var 1))))
theorem u_c_l_stream {β : Type} (ps : List Nat) (ρ : Rho) (kn : Rho → Option β) (ka : Out → Option β) : xS ps c_l_stream ρ kn ka = xS ps (.seq (.set 1 (.lst (.nil))) (.seq (.for (.u (.sl (.var 0) (.no) (.at (.int 63)))) (.nm 2) b_l_stream_5) (.seq (.iff (.te (.op .eq (.cb .len (.cons (.var 1) (.nil))) (.int 0))) (.app 1 (.int 0)) (.nx)) (.ret (.var 1))))) ρ kn ka := rfl
def f_l_stream : List D → Option RetV := runD c_l_stream 1 6
theorem x_l_stream (d0 : D) : f_l_stream [d0] = xS [] c_l_stream [.dat d0, .no, .no, .no, .no, .no] (fun _ => some (.dat .none)) out1 := runD_x rfl
def c_l_next : EV.St :=
  .seq (.seti 0 (.int 1) (.op .add (.op .ix (.var 0) (.int 1)) (.int 1))) (.seq (.set 2 (.op .fdiv (.op .ix (.var 0) (.int 1)) (.cb .len (.cons (.op .ix (.var 0) (.int 0)) (.nil))))) (.ret (.op .mod (.cb .int (.cons (.op .add (.op .add (.op .ix (.op .ix (.var 0) (.int 0)) (.op .mod (.op .ix (.var 0) (.int 1)) (.cb .len (.cons (.op .ix (.var 0) (.int 0)) (.nil))))) (.op .mul (.var 2) (.int 389))) (.op .mul (.op .mul (.op .ix (.var 0) (.int 1)) (.var 2)) (.int 17))) (.nil))) (.var 1))))
theorem u_c_l_next {β : Type} (ps : List Nat) (ρ : Rho) (kn : Rho → Option β) (ka : Out → Option β) : xS ps c_l_next ρ kn ka = xS ps (.seq (.seti 0 (.int 1) (.op .add (.op .ix (.var 0) (.int 1)) (.int 1))) (.seq (.set 2 (.op .fdiv (.op .ix (.var 0) (.int 1)) (.cb .len (.cons (.op .ix (.var 0) (.int 0)) (.nil))))) (.ret (.op .mod (.cb .int (.cons (.op .add (.op .add (.op .ix (.op .ix (.var 0) (.int 0)) (.op .mod (.op .ix (.var 0) (.int 1)) (.cb .len (.cons (.op .ix (.var 0) (.int 0)) (.nil))))) (.op .mul (.var 2) (.int 389))) (.op .mul (.op .mul (.op .ix (.var 0) (.int 1)) (.var 2)) (.int 17))) (.nil))) (.var 1))))) ρ kn ka := rfl
def f_l_next : List D → List D → Option (RetV × List D) := runS c_l_next 2 3
theorem x_l_next (s0 : List D) (d1 : D) : f_l_next s0 [d1] = xS [0] c_l_next [.own (.lst s0), .dat d1, .no] (fun ρ => gE ρ 0 fun e => eL e fun s => some (.dat .none, s)) out2 := runS_x rfl
def b_l_word_1 : EV.St :=
  .set 2 (.op .add (.var 2) (.op .ix (.str "abyz") (.callS f_l_next 0 (.cons (.int 4) (.nil)))))
theorem u_b_l_word_1 {β : Type} (ps : List Nat) (ρ : Rho) (kn : Rho → Option β) (ka : Out → Option β) : xS ps b_l_word_1 ρ kn ka = xS ps (.set 2 (.op .add (.var 2) (.op .ix (.str "abyz") (.callS f_l_next 0 (.cons (.int 4) (.nil)))))) ρ kn ka := rfl
def c_l_word : EV.St :=
  .seq (.set 2 (.str "")) (.seq (.for (.rng1 (.op .ix (.lst (.cons (.int 1) (.cons (.int 2) (.cons (.op .add (.int 1) (.callS f_l_next 0 (.cons (.int 8) (.nil)))) (.nil))))) (.callS f_l_next 0 (.cons (.int 3) (.nil))))) (.nm 3) b_l_word_1) (.seq (.iff (.te (.op .isIn (.var 2) (.var 1))) (.ret (.op .add (.str "c") (.op .ix (.str "abcdefghijklmnopqrstuvwxyz") (.cb .len (.cons (.var 1) (.nil)))))) (.nx)) (.ret (.var 2))))
theorem u_c_l_word {β : Type} (ps : List Nat) (ρ : Rho) (kn : Rho → Option β) (ka : Out → Option β) : xS ps c_l_word ρ kn ka = xS ps (.seq (.set 2 (.str "")) (.seq (.for (.rng1 (.op .ix (.lst (.cons (.int 1) (.cons (.int 2) (.cons (.op .add (.int 1) (.callS f_l_next 0 (.cons (.int 8) (.nil)))) (.nil))))) (.callS f_l_next 0 (.cons (.int 3) (.nil))))) (.nm 3) b_l_word_1) (.seq (.iff (.te (.op .isIn (.var 2) (.var 1))) (.ret (.op .add (.str "c") (.op .ix (.str "abcdefghijklmnopqrstuvwxyz") (.cb .len (.cons (.var 1) (.nil)))))) (.nx)) (.ret (.var 2))))) ρ kn ka := rfl
def f_l_word : List D → List D → Option (RetV × List D) := runS c_l_word 2 4
theorem x_l_word (s0 : List D) (d1 : D) : f_l_word s0 [d1] = xS [0] c_l_word [.own (.lst s0), .dat d1, .no, .no] (fun ρ => gE ρ 0 fun e => eL e fun s => some (.dat .none, s)) out2 := runS_x rfl
end CS
namespace CS
open PySem PySem.Spec PyProof.Rows L2 DL EV
def b_l_letters_2_1 : EV.St :=
  .app 2 (.callL f_l_word 0 2)
theorem u_b_l_letters_2_1 {β : Type} (ps : List Nat) (ρ : Rho) (kn : Rho → Option β) (ka : Out → Option β) : xS ps b_l_letters_2_1 ρ kn ka = xS ps (.app 2 (.callL f_l_word 0 2)) ρ kn ka := rfl
def c_l_letters_2 : EV.St :=
  .seq (.set 2 (.lst (.nil))) (.seq (.for (.rng1 (.var 1)) (.nm 3) b_l_letters_2_1) (.ret (.cb .tuple (.cons (.var 2) (.nil)))))
theorem u_c_l_letters_2 {β : Type} (ps : List Nat) (ρ : Rho) (kn : Rho → Option β) (ka : Out → Option β) : xS ps c_l_letters_2 ρ kn ka = xS ps (.seq (.set 2 (.lst (.nil))) (.seq (.for (.rng1 (.var 1)) (.nm 3) b_l_letters_2_1) (.ret (.cb .tuple (.cons (.var 2) (.nil)))))) ρ kn ka := rfl
def f_l_letters_2 : List D → List D → Option (RetV × List D) := runS c_l_letters_2 2 4
theorem x_l_letters_2 (s0 : List D) (d1 : D) : f_l_letters_2 s0 [d1] = xS [0] c_l_letters_2 [.own (.lst s0), .dat d1, .no, .no] (fun ρ => gE ρ 0 fun e => eL e fun s => some (.dat .none, s)) out2 := runS_x rfl
end CS
namespace CS
open PySem PySem.Spec PyProof.Rows L2 DL EV
end CS
namespace CS
open PySem PySem.Spec PyProof.Rows L2 DL EV
end CS
namespace CS
open PySem PySem.Spec PyProof.Rows L2 DL EV
end CS
namespace CS
open PySem PySem.Spec PyProof.Rows L2 DL EV
end CS
namespace CS
open PySem PySem.Spec PyProof.Rows L2 DL EV
end CS
namespace CS
open PySem PySem.Spec PyProof.Rows L2 DL EV
end CS
namespace CS
open PySem PySem.Spec PyProof.Rows L2 DL EV
end CS
namespace CS
open PySem PySem.Spec PyProof.Rows L2 DL EV
end CS
namespace CS
open PySem PySem.Spec PyProof.Rows L2 DL EV
end CS
namespace CS
open PySem PySem.Spec PyProof.Rows L2 DL EV
def e_l_machine_2_1 : Ex :=
  .var 4
theorem u_e_l_machine_2_1 {β : Type} (ps : List Nat) (ρ : Rho) (k : Vl → Rho → Option β) : xE ps e_l_machine_2_1 ρ k = xE ps (.var 4) ρ k := rfl
def t_l_machine_2_3 : Tx :=
  .te (.op .eq (.callS f_l_next 0 (.cons (.int 3) (.nil))) (.int 0))
theorem u_t_l_machine_2_3 {β : Type} (ps : List Nat) (ρ : Rho) (k : Bool → Rho → Option β) : xT ps t_l_machine_2_3 ρ k = xT ps (.te (.op .eq (.callS f_l_next 0 (.cons (.int 3) (.nil))) (.int 0))) ρ k := rfl
def e_l_machine_2_5 : Ex :=
  .callS f_l_next 0 (.cons (.var 2) (.nil))
theorem u_e_l_machine_2_5 {β : Type} (ps : List Nat) (ρ : Rho) (k : Vl → Rho → Option β) : xE ps e_l_machine_2_5 ρ k = xE ps (.callS f_l_next 0 (.cons (.var 2) (.nil))) ρ k := rfl
def b_l_machine_2_7 : EV.St :=
  .app 3 (.cb .tuple (.cons (.lc (.u (.var 1)) 6 .yes e_l_machine_2_5) (.nil)))
theorem u_b_l_machine_2_7 {β : Type} (ps : List Nat) (ρ : Rho) (kn : Rho → Option β) (ka : Out → Option β) : xS ps b_l_machine_2_7 ρ kn ka = xS ps (.app 3 (.cb .tuple (.cons (.lc (.u (.var 1)) 6 .yes e_l_machine_2_5) (.nil)))) ρ kn ka := rfl
def c_l_machine_2 : EV.St :=
  .seq (.set 3 (.lst (.nil))) (.seq (.for (.rng1 (.var 2)) (.nm 4) b_l_machine_2_7) (.seq (.set 5 (.cb .tuple (.cons (.lc (.rng1 (.var 2)) 4 t_l_machine_2_3 e_l_machine_2_1) (.nil)))) (.ret (.tup (.cons (.var 1) (.cons (.cb .tuple (.cons (.var 3) (.nil))) (.cons (.var 5) (.nil))))))))
theorem u_c_l_machine_2 {β : Type} (ps : List Nat) (ρ : Rho) (kn : Rho → Option β) (ka : Out → Option β) : xS ps c_l_machine_2 ρ kn ka = xS ps (.seq (.set 3 (.lst (.nil))) (.seq (.for (.rng1 (.var 2)) (.nm 4) b_l_machine_2_7) (.seq (.set 5 (.cb .tuple (.cons (.lc (.rng1 (.var 2)) 4 t_l_machine_2_3 e_l_machine_2_1) (.nil)))) (.ret (.tup (.cons (.var 1) (.cons (.cb .tuple (.cons (.var 3) (.nil))) (.cons (.var 5) (.nil))))))))) ρ kn ka := rfl
def f_l_machine_2 : List D → List D → Option (RetV × List D) := runS c_l_machine_2 3 7
theorem x_l_machine_2 (s0 : List D) (d1 d2 : D) : f_l_machine_2 s0 [d1, d2] = xS [0] c_l_machine_2 [.own (.lst s0), .dat d1, .dat d2, .no, .no, .no, .no] (fun ρ => gE ρ 0 fun e => eL e fun s => some (.dat .none, s)) out2 := runS_x rfl
def e_l_log_3_1 : Ex :=
  .op .ix (.var 1) (.callS f_l_next 0 (.cons (.cb .len (.cons (.var 1) (.nil))) (.nil)))
theorem u_e_l_log_3_1 {β : Type} (ps : List Nat) (ρ : Rho) (k : Vl → Rho → Option β) : xE ps e_l_log_3_1 ρ k = xE ps (.op .ix (.var 1) (.callS f_l_next 0 (.cons (.cb .len (.cons (.var 1) (.nil))) (.nil)))) ρ k := rfl
def c_l_log_3 : EV.St :=
  .ret (.cb .tuple (.cons (.lc (.rng1 (.var 2)) 3 .yes e_l_log_3_1) (.nil)))
theorem u_c_l_log_3 {β : Type} (ps : List Nat) (ρ : Rho) (kn : Rho → Option β) (ka : Out → Option β) : xS ps c_l_log_3 ρ kn ka = xS ps (.ret (.cb .tuple (.cons (.lc (.rng1 (.var 2)) 3 .yes e_l_log_3_1) (.nil)))) ρ kn ka := rfl
def f_l_log_3 : List D → List D → Option (RetV × List D) := runS c_l_log_3 3 4
theorem x_l_log_3 (s0 : List D) (d1 d2 : D) : f_l_log_3 s0 [d1, d2] = xS [0] c_l_log_3 [.own (.lst s0), .dat d1, .dat d2, .no] (fun ρ => gE ρ 0 fun e => eL e fun s => some (.dat .none, s)) out2 := runS_x rfl
def b_l_behind_1 : EV.St :=
  .set 2 (.op .ix (.op .ix (.var 5) (.var 2)) (.idxT (.var 4) (.var 3)))
theorem u_b_l_behind_1 {β : Type} (ps : List Nat) (ρ : Rho) (kn : Rho → Option β) (ka : Out → Option β) : xS ps b_l_behind_1 ρ kn ka = xS ps (.set 2 (.op .ix (.op .ix (.var 5) (.var 2)) (.idxT (.var 4) (.var 3)))) ρ kn ka := rfl
def c_l_behind : EV.St :=
  .seq (.asg (.var 0) (.tup 3 (.cons (.nm 4) (.cons (.nm 5) (.cons (.nm 6) (.nil)))))) (.seq (.set 2 (.int 0)) (.seq (.for (.u (.var 1)) (.nm 3) b_l_behind_1) (.ret (.var 2))))
theorem u_c_l_behind {β : Type} (ps : List Nat) (ρ : Rho) (kn : Rho → Option β) (ka : Out → Option β) : xS ps c_l_behind ρ kn ka = xS ps (.seq (.asg (.var 0) (.tup 3 (.cons (.nm 4) (.cons (.nm 5) (.cons (.nm 6) (.nil)))))) (.seq (.set 2 (.int 0)) (.seq (.for (.u (.var 1)) (.nm 3) b_l_behind_1) (.ret (.var 2))))) ρ kn ka := rfl
def f_l_behind : List D → Option RetV := runD c_l_behind 2 7
theorem x_l_behind (d0 d1 : D) : f_l_behind [d0, d1] = xS [] c_l_behind [.dat d0, .dat d1, .no, .no, .no, .no, .no] (fun _ => some (.dat .none)) out1 := runD_x rfl
def b_room_behind_1 : EV.St :=
  .set 2 (.op .ix (.op .ix (.var 5) (.var 2)) (.idxT (.var 4) (.var 3)))
theorem u_b_room_behind_1 {β : Type} (ps : List Nat) (ρ : Rho) (kn : Rho → Option β) (ka : Out → Option β) : xS ps b_room_behind_1 ρ kn ka = xS ps (.set 2 (.op .ix (.op .ix (.var 5) (.var 2)) (.idxT (.var 4) (.var 3)))) ρ kn ka := rfl
def c_room_behind : EV.St :=
  .seq (.asg (.var 0) (.tup 3 (.cons (.nm 4) (.cons (.nm 5) (.cons (.nm 6) (.nil)))))) (.seq (.set 2 (.int 0)) (.seq (.for (.u (.var 1)) (.nm 3) b_room_behind_1) (.ret (.var 2))))
theorem u_c_room_behind {β : Type} (ps : List Nat) (ρ : Rho) (kn : Rho → Option β) (ka : Out → Option β) : xS ps c_room_behind ρ kn ka = xS ps (.seq (.asg (.var 0) (.tup 3 (.cons (.nm 4) (.cons (.nm 5) (.cons (.nm 6) (.nil)))))) (.seq (.set 2 (.int 0)) (.seq (.for (.u (.var 1)) (.nm 3) b_room_behind_1) (.ret (.var 2))))) ρ kn ka := rfl
def f_room_behind : List D → Option RetV := runD c_room_behind 2 7
theorem x_room_behind (d0 d1 : D) : f_room_behind [d0, d1] = xS [] c_room_behind [.dat d0, .dat d1, .no, .no, .no, .no, .no] (fun _ => some (.dat .none)) out1 := runD_x rfl
def c_lets : EV.St :=
  .ret (.op .isIn (.call f_room_behind (.cons (.var 0) (.cons (.var 1) (.nil)))) (.op .ix (.var 0) (.int 2)))
theorem u_c_lets {β : Type} (ps : List Nat) (ρ : Rho) (kn : Rho → Option β) (ka : Out → Option β) : xS ps c_lets ρ kn ka = xS ps (.ret (.op .isIn (.call f_room_behind (.cons (.var 0) (.cons (.var 1) (.nil)))) (.op .ix (.var 0) (.int 2)))) ρ kn ka := rfl
def f_lets : List D → Option RetV := runD c_lets 2 2
theorem x_lets (d0 d1 : D) : f_lets [d0, d1] = xS [] c_lets [.dat d0, .dat d1] (fun _ => some (.dat .none)) out1 := runD_x rfl
def c_is_word : EV.St :=
  .seq (.iff (.or (.nt (.te (.ch .le .le (.int 1) (.cb .len (.cons (.var 0) (.nil))) (.int 8)))) (.te (.inC false ["any", "empty", "none", "and", "or", "not", "again"] (.var 0)))) (.ret (.bl false)) (.nx)) (.ret (.allIn "abcdefghijklmnopqrstuvwxyz" (.var 0)))
theorem u_c_is_word {β : Type} (ps : List Nat) (ρ : Rho) (kn : Rho → Option β) (ka : Out → Option β) : xS ps c_is_word ρ kn ka = xS ps (.seq (.iff (.or (.nt (.te (.ch .le .le (.int 1) (.cb .len (.cons (.var 0) (.nil))) (.int 8)))) (.te (.inC false ["any", "empty", "none", "and", "or", "not", "again"] (.var 0)))) (.ret (.bl false)) (.nx)) (.ret (.allIn "abcdefghijklmnopqrstuvwxyz" (.var 0)))) ρ kn ka := rfl
def f_is_word : List D → Option RetV := runD c_is_word 1 1
theorem x_is_word (d0 : D) : f_is_word [d0] = xS [] c_is_word [.dat d0] (fun _ => some (.dat .none)) out1 := runD_x rfl
def b_check_letters_1 (X : Cl) : EV.St :=
  .seq (.iff (.nt (.tb (.call f_is_word (.cons (.var 2) (.nil))))) (.raise X.na) (.nx)) (.iff (.te (.op .isIn (.var 2) (.sl (.var 0) (.no) (.at (.var 1))))) (.raise X.na) (.nx))
theorem u_b_check_letters_1 {β : Type} (X : Cl) (ps : List Nat) (ρ : Rho) (kn : Rho → Option β) (ka : Out → Option β) : xS ps (b_check_letters_1 X) ρ kn ka = xS ps (.seq (.iff (.nt (.tb (.call f_is_word (.cons (.var 2) (.nil))))) (.raise X.na) (.nx)) (.iff (.te (.op .isIn (.var 2) (.sl (.var 0) (.no) (.at (.var 1))))) (.raise X.na) (.nx))) ρ kn ka := rfl
def c_check_letters (X : Cl) : EV.St :=
  .seq (.iff (.nt (.te (.ch .le .le (.int 1) (.cb .len (.cons (.var 0) (.nil))) (.int 4)))) (.raise X.na) (.nx)) (.for (.en (.var 0)) (.tup 2 (.cons (.nm 1) (.cons (.nm 2) (.nil)))) (b_check_letters_1 X))
theorem u_c_check_letters {β : Type} (X : Cl) (ps : List Nat) (ρ : Rho) (kn : Rho → Option β) (ka : Out → Option β) : xS ps (c_check_letters X) ρ kn ka = xS ps (.seq (.iff (.nt (.te (.ch .le .le (.int 1) (.cb .len (.cons (.var 0) (.nil))) (.int 4)))) (.raise X.na) (.nx)) (.for (.en (.var 0)) (.tup 2 (.cons (.nm 1) (.cons (.nm 2) (.nil)))) (b_check_letters_1 X))) ρ kn ka := rfl
def f_check_letters (X : Cl) : List D → Option RetX := runX (c_check_letters X) 1 3
theorem x_check_letters (X : Cl) (d0 : D) : f_check_letters X [d0] = xS [] (c_check_letters X) [.dat d0, .no, .no] (fun _ => some (.ok (.dat .none))) out3 := runX_x rfl
def b_check_rooms_1 (X : Cl) : EV.St :=
  .iff (.nt (.te (.ch .le .lt (.int 0) (.var 2) (.var 1)))) (.raise X.na) (.nx)
theorem u_b_check_rooms_1 {β : Type} (X : Cl) (ps : List Nat) (ρ : Rho) (kn : Rho → Option β) (ka : Out → Option β) : xS ps (b_check_rooms_1 X) ρ kn ka = xS ps (.iff (.nt (.te (.ch .le .lt (.int 0) (.var 2) (.var 1)))) (.raise X.na) (.nx)) ρ kn ka := rfl
def c_check_rooms (X : Cl) : EV.St :=
  .for (.u (.var 0)) (.nm 2) (b_check_rooms_1 X)
theorem u_c_check_rooms {β : Type} (X : Cl) (ps : List Nat) (ρ : Rho) (kn : Rho → Option β) (ka : Out → Option β) : xS ps (c_check_rooms X) ρ kn ka = xS ps (.for (.u (.var 0)) (.nm 2) (b_check_rooms_1 X)) ρ kn ka := rfl
def f_check_rooms (X : Cl) : List D → Option RetX := runX (c_check_rooms X) 2 3
theorem x_check_rooms (X : Cl) (d0 d1 : D) : f_check_rooms X [d0, d1] = xS [] (c_check_rooms X) [.dat d0, .dat d1, .no] (fun _ => some (.ok (.dat .none))) out3 := runX_x rfl
def b_check_machine_1 (X : Cl) : EV.St :=
  .iff (.te (.op .ge (.op .ix (.var 5) (.op .sub (.var 2) (.int 1))) (.op .ix (.var 5) (.var 2)))) (.raise X.na) (.nx)
theorem u_b_check_machine_1 {β : Type} (X : Cl) (ps : List Nat) (ρ : Rho) (kn : Rho → Option β) (ka : Out → Option β) : xS ps (b_check_machine_1 X) ρ kn ka = xS ps (.iff (.te (.op .ge (.op .ix (.var 5) (.op .sub (.var 2) (.int 1))) (.op .ix (.var 5) (.var 2)))) (.raise X.na) (.nx)) ρ kn ka := rfl
def b_check_machine_3 (X : Cl) : EV.St :=
  .seq (.iff (.te (.op .ne (.cb .len (.cons (.var 1) (.nil))) (.cb .len (.cons (.var 3) (.nil))))) (.raise X.na) (.nx)) (.dropX (f_check_rooms X) (.cons (.var 1) (.cons (.cb .len (.cons (.var 4) (.nil))) (.nil))))
theorem u_b_check_machine_3 {β : Type} (X : Cl) (ps : List Nat) (ρ : Rho) (kn : Rho → Option β) (ka : Out → Option β) : xS ps (b_check_machine_3 X) ρ kn ka = xS ps (.seq (.iff (.te (.op .ne (.cb .len (.cons (.var 1) (.nil))) (.cb .len (.cons (.var 3) (.nil))))) (.raise X.na) (.nx)) (.dropX (f_check_rooms X) (.cons (.var 1) (.cons (.cb .len (.cons (.var 4) (.nil))) (.nil))))) ρ kn ka := rfl
def c_check_machine (X : Cl) : EV.St :=
  .seq (.asg (.var 0) (.tup 3 (.cons (.nm 3) (.cons (.nm 4) (.cons (.nm 5) (.nil)))))) (.seq (.dropX (f_check_letters X) (.cons (.var 3) (.nil))) (.seq (.iff (.nt (.te (.ch .le .le (.int 1) (.cb .len (.cons (.var 4) (.nil))) (.int 8)))) (.raise X.na) (.nx)) (.seq (.for (.u (.var 4)) (.nm 1) (b_check_machine_3 X)) (.seq (.dropX (f_check_rooms X) (.cons (.var 5) (.cons (.cb .len (.cons (.var 4) (.nil))) (.nil)))) (.for (.rng2 (.int 1) (.cb .len (.cons (.var 5) (.nil)))) (.nm 2) (b_check_machine_1 X))))))
theorem u_c_check_machine {β : Type} (X : Cl) (ps : List Nat) (ρ : Rho) (kn : Rho → Option β) (ka : Out → Option β) : xS ps (c_check_machine X) ρ kn ka = xS ps (.seq (.asg (.var 0) (.tup 3 (.cons (.nm 3) (.cons (.nm 4) (.cons (.nm 5) (.nil)))))) (.seq (.dropX (f_check_letters X) (.cons (.var 3) (.nil))) (.seq (.iff (.nt (.te (.ch .le .le (.int 1) (.cb .len (.cons (.var 4) (.nil))) (.int 8)))) (.raise X.na) (.nx)) (.seq (.for (.u (.var 4)) (.nm 1) (b_check_machine_3 X)) (.seq (.dropX (f_check_rooms X) (.cons (.var 5) (.cons (.cb .len (.cons (.var 4) (.nil))) (.nil)))) (.for (.rng2 (.int 1) (.cb .len (.cons (.var 5) (.nil)))) (.nm 2) (b_check_machine_1 X))))))) ρ kn ka := rfl
def f_check_machine (X : Cl) : List D → Option RetX := runX (c_check_machine X) 1 6
theorem x_check_machine (X : Cl) (d0 : D) : f_check_machine X [d0] = xS [] (c_check_machine X) [.dat d0, .no, .no, .no, .no, .no] (fun _ => some (.ok (.dat .none))) out3 := runX_x rfl
def c_l_refused (X : Cl) : EV.St :=
  .seq (.tryN (.dr (.x (f_check_machine X) (.cons (.var 0) (.nil)))) 1 X.se [X.na, X.tl, X.mi, X.bp, X.bf, X.br] [(X.na, .tst (.an (.one X.se) (.nt (.any [X.tl, X.mi, X.bp, X.bf, X.br]))))]) (.ret (.bl false))
theorem u_c_l_refused {β : Type} (X : Cl) (ps : List Nat) (ρ : Rho) (kn : Rho → Option β) (ka : Out → Option β) : xS ps (c_l_refused X) ρ kn ka = xS ps (.seq (.tryN (.dr (.x (f_check_machine X) (.cons (.var 0) (.nil)))) 1 X.se [X.na, X.tl, X.mi, X.bp, X.bf, X.br] [(X.na, .tst (.an (.one X.se) (.nt (.any [X.tl, X.mi, X.bp, X.bf, X.br]))))]) (.ret (.bl false))) ρ kn ka := rfl
def f_l_refused (X : Cl) : List D → Option RetV := runD (c_l_refused X) 1 2
theorem x_l_refused (X : Cl) (d0 : D) : f_l_refused X [d0] = xS [] (c_l_refused X) [.dat d0, .no] (fun _ => some (.dat .none)) out1 := runD_x rfl
def b_l_spoilt_1 : EV.St :=
  .app 6 (.tup (.cons (.var 9) (.cons (.var 10) (.cons (.var 7) (.nil)))))
theorem u_b_l_spoilt_1 {β : Type} (ps : List Nat) (ρ : Rho) (kn : Rho → Option β) (ka : Out → Option β) : xS ps b_l_spoilt_1 ρ kn ka = xS ps (.app 6 (.tup (.cons (.var 9) (.cons (.var 10) (.cons (.var 7) (.nil)))))) ρ kn ka := rfl
def e_l_spoilt_3 : Ex :=
  .tup (.cons (.var 9) (.cons (.op .add (.op .add (.sl (.var 10) (.no) (.at (.var 2))) (.tup (.cons (.var 12) (.nil)))) (.sl (.var 10) (.at (.op .add (.var 2) (.int 1))) (.no))) (.cons (.var 11) (.nil))))
theorem u_e_l_spoilt_3 {β : Type} (ps : List Nat) (ρ : Rho) (k : Vl → Rho → Option β) : xE ps e_l_spoilt_3 ρ k = xE ps (.tup (.cons (.var 9) (.cons (.op .add (.op .add (.sl (.var 10) (.no) (.at (.var 2))) (.tup (.cons (.var 12) (.nil)))) (.sl (.var 10) (.at (.op .add (.var 2) (.int 1))) (.no))) (.cons (.var 11) (.nil))))) ρ k := rfl
def c_l_spoilt : EV.St :=
  .seq (.asg (.var 1) (.tup 3 (.cons (.nm 9) (.cons (.nm 10) (.cons (.nm 11) (.nil)))))) (.seq (.set 2 (.callS f_l_next 0 (.cons (.cb .len (.cons (.var 10) (.nil))) (.nil)))) (.seq (.set 3 (.callS f_l_next 0 (.cons (.cb .len (.cons (.var 9) (.nil))) (.nil)))) (.seq (.set 4 (.op .ix (.var 10) (.var 2))) (.seq (.set 5 (.lst (.cons (.op .add (.op .add (.sl (.var 4) (.no) (.at (.var 3))) (.tup (.cons (.cb .len (.cons (.var 10) (.nil))) (.nil)))) (.sl (.var 4) (.at (.op .add (.var 3) (.int 1))) (.no))) (.cons (.op .add (.op .add (.sl (.var 4) (.no) (.at (.var 3))) (.tup (.cons (.neg (.int 1)) (.nil)))) (.sl (.var 4) (.at (.op .add (.var 3) (.int 1))) (.no))) (.cons (.op .add (.var 4) (.tup (.cons (.int 0) (.nil)))) (.cons (.op .add (.sl (.var 4) (.no) (.at (.var 3))) (.sl (.var 4) (.at (.op .add (.var 3) (.int 1))) (.no))) (.nil))))))) (.seq (.set 6 (.lst (.cons (.tup (.cons (.var 9) (.cons (.tup (.nil)) (.cons (.tup (.nil)) (.nil))))) (.cons (.tup (.cons (.var 9) (.cons (.op .add (.var 10) (.op .mul (.sl (.var 10) (.no) (.at (.int 1))) (.op .sub (.int 9) (.cb .len (.cons (.var 10) (.nil)))))) (.cons (.var 11) (.nil))))) (.nil))))) (.seq (.fz 5 (.set 6 (.op .add (.var 6) (.lc (.u (.var 5)) 12 .yes e_l_spoilt_3)))) (.seq (.for (.u (.lst (.cons (.tup (.cons (.cb .len (.cons (.var 10) (.nil))) (.nil))) (.cons (.tup (.cons (.neg (.int 1)) (.nil))) (.cons (.tup (.cons (.int 0) (.cons (.int 0) (.nil)))) (.cons (.op .add (.var 11) (.tup (.cons (.cb .len (.cons (.var 10) (.nil))) (.nil)))) (.cons (.tup (.cons (.var 2) (.cons (.var 2) (.nil)))) (.cons (.tup (.cons (.int 1) (.cons (.int 0) (.nil)))) (.cons (.op .add (.revT (.var 11)) (.tup (.cons (.int 0) (.nil)))) (.nil)))))))))) (.nm 7) b_l_spoilt_1) (.seq (.set 6 (.op .add (.var 6) (.lst (.cons (.tup (.cons (.tup (.nil)) (.cons (.var 10) (.cons (.var 11) (.nil))))) (.cons (.tup (.cons (.op .add (.op .add (.sl (.var 9) (.no) (.at (.var 3))) (.tup (.cons (.str "none") (.nil)))) (.sl (.var 9) (.at (.op .add (.var 3) (.int 1))) (.no))) (.cons (.var 10) (.cons (.var 11) (.nil))))) (.cons (.tup (.cons (.op .add (.var 9) (.sl (.var 9) (.no) (.at (.int 1)))) (.cons (.var 10) (.cons (.var 11) (.nil))))) (.nil))))))) (.seq (.set 8 (.op .ix (.var 6) (.callS f_l_next 0 (.cons (.cb .len (.cons (.var 6) (.nil))) (.nil))))) (.seq (.iff (.or (.an (.te (.op .eq (.op .ix (.var 8) (.int 2)) (.tup (.cons (.int 1) (.cons (.int 0) (.nil)))))) (.te (.op .lt (.cb .len (.cons (.var 10) (.nil))) (.int 2)))) (.an (.te (.op .eq (.op .ix (.var 8) (.int 2)) (.tup (.cons (.int 0) (.nil))))) (.te (.op .eq (.op .ix (.var 8) (.int 2)) (.op .add (.revT (.var 11)) (.tup (.cons (.int 0) (.nil)))))))) (.ret (.tup (.cons (.var 9) (.cons (.tup (.nil)) (.cons (.tup (.nil)) (.nil)))))) (.nx)) (.ret (.var 8))))))))))))
def f_l_spoilt : List D → List D → Option (RetV × List D) := runS c_l_spoilt 2 13
theorem x_l_spoilt (s0 : List D) (d1 : D) : f_l_spoilt s0 [d1] = xS [0] c_l_spoilt [.own (.lst s0), .dat d1, .no, .no, .no, .no, .no, .no, .no, .no, .no, .no, .no] (fun ρ => gE ρ 0 fun e => eL e fun s => some (.dat .none, s)) out2 := runS_x rfl
def c_l_same : EV.St :=
  .ret (.op .eq (.cb .repr (.cons (.lst (.cons (.var 0) (.nil))) (.nil))) (.cb .repr (.cons (.lst (.cons (.var 1) (.nil))) (.nil))))
theorem u_c_l_same {β : Type} (ps : List Nat) (ρ : Rho) (kn : Rho → Option β) (ka : Out → Option β) : xS ps c_l_same ρ kn ka = xS ps (.ret (.op .eq (.cb .repr (.cons (.lst (.cons (.var 0) (.nil))) (.nil))) (.cb .repr (.cons (.lst (.cons (.var 1) (.nil))) (.nil))))) ρ kn ka := rfl
def f_l_same : List D → Option RetV := runD c_l_same 2 2
theorem x_l_same (d0 d1 : D) : f_l_same [d0, d1] = xS [] c_l_same [.dat d0, .dat d1] (fun _ => some (.dat .none)) out1 := runD_x rfl
def b_law_12_1 (X : Cl) : EV.St :=
  .seq (.fz 2 (.set 6 (.callS f_l_log_3 1 (.cons (.var 2) (.cons (.op .ix (.lst (.cons (.callS f_l_next 1 (.cons (.int 6) (.nil))) (.cons (.callS f_l_next 1 (.cons (.int 60) (.nil))) (.cons (.int 1000) (.nil))))) (.op .add (.cb .int (.cons (.op .eq (.callS f_l_next 1 (.cons (.int 40) (.nil))) (.int 0)) (.nil))) (.cb .int (.cons (.callS f_l_next 1 (.cons (.int 2) (.nil))) (.nil))))) (.nil)))))) (.seq (.fz 4 (.fz 6 (.set 7 (.call f_l_behind (.cons (.var 4) (.cons (.var 6) (.nil))))))) (.seq (.fz 4 (.fz 6 (.set 8 (.call f_lets (.cons (.var 4) (.cons (.var 6) (.nil))))))) (.fz 7 (.fz 4 (.fz 6 (.iff (.or (.nt (.tb (.call f_l_same (.cons (.call f_room_behind (.cons (.var 4) (.cons (.var 6) (.nil)))) (.cons (.var 7) (.nil)))))) (.or (.an (.te (.isB true true (.var 8))) (.te (.isB true false (.var 8)))) (.te (.op .ne (.var 8) (.op .isIn (.var 7) (.op .ix (.var 4) (.int 2))))))) (.ret (.bl false)) (.nx)))))))
theorem u_b_law_12_1 {β : Type} (X : Cl) (ps : List Nat) (ρ : Rho) (kn : Rho → Option β) (ka : Out → Option β) : xS ps (b_law_12_1 X) ρ kn ka = xS ps (.seq (.fz 2 (.set 6 (.callS f_l_log_3 1 (.cons (.var 2) (.cons (.op .ix (.lst (.cons (.callS f_l_next 1 (.cons (.int 6) (.nil))) (.cons (.callS f_l_next 1 (.cons (.int 60) (.nil))) (.cons (.int 1000) (.nil))))) (.op .add (.cb .int (.cons (.op .eq (.callS f_l_next 1 (.cons (.int 40) (.nil))) (.int 0)) (.nil))) (.cb .int (.cons (.callS f_l_next 1 (.cons (.int 2) (.nil))) (.nil))))) (.nil)))))) (.seq (.fz 4 (.fz 6 (.set 7 (.call f_l_behind (.cons (.var 4) (.cons (.var 6) (.nil))))))) (.seq (.fz 4 (.fz 6 (.set 8 (.call f_lets (.cons (.var 4) (.cons (.var 6) (.nil))))))) (.fz 7 (.fz 4 (.fz 6 (.iff (.or (.nt (.tb (.call f_l_same (.cons (.call f_room_behind (.cons (.var 4) (.cons (.var 6) (.nil)))) (.cons (.var 7) (.nil)))))) (.or (.an (.te (.isB true true (.var 8))) (.te (.isB true false (.var 8)))) (.te (.op .ne (.var 8) (.op .isIn (.var 7) (.op .ix (.var 4) (.int 2))))))) (.ret (.bl false)) (.nx)))))))) ρ kn ka := rfl
def b_law_12_3 (X : Cl) : EV.St :=
  .seq (.fz 2 (.set 4 (.callS f_l_machine_2 1 (.cons (.var 2) (.cons (.op .add (.int 1) (.callS f_l_next 1 (.cons (.int 8) (.nil)))) (.nil)))))) (.seq (.fz 4 (.iff (.or (.tb (.notN (.callX (f_check_machine X) (.cons (.var 4) (.nil))))) (.nt (.tb (.call (f_l_refused X) (.cons (.callS f_l_spoilt 1 (.cons (.var 4) (.nil))) (.nil)))))) (.ret (.bl false)) (.nx))) (.for (.rng1 (.int 3)) (.nm 5) (b_law_12_1 X)))
theorem u_b_law_12_3 {β : Type} (X : Cl) (ps : List Nat) (ρ : Rho) (kn : Rho → Option β) (ka : Out → Option β) : xS ps (b_law_12_3 X) ρ kn ka = xS ps (.seq (.fz 2 (.set 4 (.callS f_l_machine_2 1 (.cons (.var 2) (.cons (.op .add (.int 1) (.callS f_l_next 1 (.cons (.int 8) (.nil)))) (.nil)))))) (.seq (.fz 4 (.iff (.or (.tb (.notN (.callX (f_check_machine X) (.cons (.var 4) (.nil))))) (.nt (.tb (.call (f_l_refused X) (.cons (.callS f_l_spoilt 1 (.cons (.var 4) (.nil))) (.nil)))))) (.ret (.bl false)) (.nx))) (.for (.rng1 (.int 3)) (.nm 5) (b_law_12_1 X)))) ρ kn ka := rfl
def c_law_12 (X : Cl) : EV.St :=
  .seq (.set 1 (.lst (.cons (.call f_l_stream (.cons (.var 0) (.nil))) (.cons (.int 0) (.nil))))) (.seq (.set 2 (.callS f_l_letters_2 1 (.cons (.op .add (.int 1) (.callS f_l_next 1 (.cons (.int 4) (.nil)))) (.nil)))) (.seq (.for (.rng1 (.int 3)) (.nm 3) (b_law_12_3 X)) (.ret (.op .eq (.int 8) (.int 8)))))
theorem u_c_law_12 {β : Type} (X : Cl) (ps : List Nat) (ρ : Rho) (kn : Rho → Option β) (ka : Out → Option β) : xS ps (c_law_12 X) ρ kn ka = xS ps (.seq (.set 1 (.lst (.cons (.call f_l_stream (.cons (.var 0) (.nil))) (.cons (.int 0) (.nil))))) (.seq (.set 2 (.callS f_l_letters_2 1 (.cons (.op .add (.int 1) (.callS f_l_next 1 (.cons (.int 4) (.nil)))) (.nil)))) (.seq (.for (.rng1 (.int 3)) (.nm 3) (b_law_12_3 X)) (.ret (.op .eq (.int 8) (.int 8)))))) ρ kn ka := rfl
def f_law_12 (X : Cl) : List D → Option RetV := runD (c_law_12 X) 1 9
theorem x_law_12 (X : Cl) (d0 : D) : f_law_12 X [d0] = xS [] (c_law_12 X) [.dat d0, .no, .no, .no, .no, .no, .no, .no, .no] (fun _ => some (.dat .none)) out1 := runD_x rfl
end CS
namespace DL
open PySem PySem.Spec PyProof.Rows L2
/-- at most the script is held, as data, and the tables -/
def onlyT (a : Addr) (u : Option HO) (Ps : List Addr) : Hp := fun b => if b = a then u else if b ∈ Ps then some (.ext (tabP b)) else none
theorem onlyT_at {a : Addr} {u : Option HO} {Ps : List Addr} : onlyT a u Ps a = u := if_pos rfl
theorem onlyT_tab {a b : Addr} {u : Option HO} {Ps : List Addr} (h : b ≠ a) (m : b ∈ Ps) : onlyT a u Ps b = some (.ext (tabP b)) := (if_neg h).trans (if_pos m)
theorem onlyT_off {a b : Addr} {u : Option HO} {Ps : List Addr} (h : b ≠ a) (m : b ∉ Ps) : onlyT a u Ps b = none := (if_neg h).trans (if_neg m)
section
variable {P : Program} {w : World} {K : PySem.W.Frag} {mg mb : Str → Option Value} {C : CXT} {k : Nat} {fa a : Addr} {fd : FuncData} {x : Str} {sp : Sp} {z : Shared} {vs : List Value} {ns : List Int} {cs : List (Addr × Addr)}
theorem lawGT (KX : K.In z.heap) (hm : z.heap.Ns mainGlobals mg) (hb : z.heap.Ns builtinsNs mb) (hbb : ∀ y : Str, y ≠ "__name__" → mb y = bootBuiltins y) (hlim : z.heap.NoLimit) (hg : z.gens = #[])
    (hT : ∀ p ∈ cs, z.heap.get? p.2 = some { cls := .none, data := .fields #[] }) (nT : ∀ p ∈ cs, K.lookup p.2 = none) (hc : ∀ p ∈ cs, PySem.W.codeHdIn K p.1 p.2 = true)
    (hbm : ∃ (bm : Addr) (ob : Obj), mg "__builtins__" = some (.ref bm) ∧ bm ≠ builtinsNs ∧ z.heap.get? bm = some ob ∧ ob.cls = .type "module" ∧ ob.dict = some builtinsNs ∧ ob.data = .plain)
    (ha : z.heap.get? a = some { cls := .type "list", data := .seq vs.toArray }) (hi : IntsAre vs ns) (hl : ns.length ≤ sizeLine) (hr : Room k callerA)
    (F : ∀ base : Heap, K.In base → base.Ns mainGlobals mg → (∀ p ∈ cs, GxR.TabB base mg p.1 p.2) → FnG P w K mg base C k fa fd [x] sp) (bd : ∀ (s : Shared) (u : Value), BindsTo s fd ⟨[u], []⟩ [(x, u)])
    (hs : ∀ H : Hp, (∀ p ∈ cs, H p.2 = some (.ext (tabP p.2))) → SqL K H a (ns.map V.int) → sp [.ref a] H (fun v H' => v = .bl true ∧ ∀ p ∈ cs, H' p.2 = some (.ext (tabP p.2))) fun _ _ _ => False) (hC : ∀ H e s', C [] H z (fun _ _ _ => False) e s' → False) :
    codeAny (model P w) callerA (.call (.ref fa) ⟨[.ref a], []⟩) (fun r s' => r = .ok (.ret (.bool true)) ∧ OldK z.heap s'.heap ∧ s'.os = z.os ∧ AllBare s'.gens) z := by
  have rv := vals_ints hi
  have tb : ∀ {b : Addr}, b ∈ cs.map (·.2) → z.heap.get? b = some { cls := .none, data := .fields #[] } := fun {b} m => by
    obtain ⟨p, mp, rfl⟩ := List.mem_map.mp m
    exact hT p mp
  have na : ∀ {b : Addr}, b ∈ cs.map (·.2) → b ≠ a := fun {b} m e => by
    have q := tb m
    rw [e, ha] at q
    exact nomatch (show Data.seq vs.toArray _ = Data.fields #[] from congrArg Obj.data (Option.some.inj q))
  have main : ∀ u : Option HO, (u = none ∨ ∃ o xs, u = some (.frz o (.lst xs))) → SqL K (onlyT a u (cs.map (·.2))) a (ns.map V.int) → HOk P w (onlyT a u (cs.map (·.2))) z.heap → (u ≠ none → K.lookup a = none) →
      codeAny (model P w) callerA (.call (.ref fa) ⟨[.ref a], []⟩) (fun r s' => r = .ok (.ret (.bool true)) ∧ OldK z.heap s'.heap ∧ s'.os = z.os ∧ AllBare s'.gens) z := by
    intro u hu hS ok hK
    generalize hH : onlyT a u (cs.map (·.2)) = H at *
    have off : ∀ {b : Addr}, (b = a → u = none) → b ∉ cs.map (·.2) → H b = none := fun {b} h1 h2 => by
      rw [← hH]
      by_cases e : b = a
      · rw [e, onlyT_at]; exact h1 e
      · exact onlyT_off e h2
    have tabs : ∀ p ∈ cs, H p.2 = some (.ext (tabP p.2)) := fun p mp => by
      have m : p.2 ∈ cs.map (·.2) := List.mem_map.mpr ⟨p, mp, rfl⟩
      rw [← hH]
      exact onlyT_tab (na m) m
    have sd : ∀ {b : Addr} {o : Obj}, z.heap.get? b = some o → (b = a → u = none) → b ∉ cs.map (·.2) → (hidT z.heap H).get? b = some o := fun q h1 h2 => hidT_get q (off h1 h2)
    have dict : ∀ {b : Addr} {o : Obj}, z.heap.get? b = some o → (∀ (l : List Value) n, o.data ≠ .seq l.toArray n) → o.data ≠ .fields #[] → (hidT z.heap H).get? b = some o := fun {b o} q d1 d2 => sd q (fun e => by
        subst e
        rw [ha] at q
        cases q
        exact absurd rfl (d1 vs _)) fun m => by
        have := (tb m).symm.trans q
        cases this
        exact d2 rfl
    have nsp : ∀ {b : Addr} {m : Str → Option Value}, z.heap.Ns b m → (hidT z.heap H).Ns b m := fun {b m} ⟨o, es, ep, q, d, r⟩ => ⟨o, es, ep, dict q (fun _ _ e => by rw [d] at e; cases e) (fun e => by rw [d] at e; cases e), d, r⟩
    have kin : K.In (hidT z.heap H) := fun b o q => sd (KX b o q) (fun e => by
      cases hu' : u with
      | none => rfl
      | some y =>
        have := hK (by rw [hu']; simp)
        rw [e, this] at q
        cases q) fun m => by
      obtain ⟨p, mp, rfl⟩ := List.mem_map.mp m
      rw [nT p mp] at q
      cases q
    obtain ⟨mc, l1, l2⟩ := id hlim
    obtain ⟨bm, ob, b1, b2, b3, b4, b5, b6⟩ := hbm
    have md : Mod K mg (hidT z.heap H) := ⟨kin, nsp hm, ⟨mb, nsp hb, hbb⟩, ⟨mc, nsp l1, l2⟩⟩
    have TB : ∀ p ∈ cs, GxR.TabB (hidT z.heap H) mg p.1 p.2 := fun p mp => by
      have m : p.2 ∈ cs.map (·.2) := List.mem_map.mpr ⟨p, mp, rfl⟩
      refine ⟨PySem.W.codeHd_of_K kin (hc p mp), ⟨bm, ob, b1, b2, fun e => ?_, fun e => ?_, dict b3 (fun _ _ e => by rw [b6] at e; cases e) (fun e => by rw [b6] at e; cases e), b4, b5, b6⟩, fun e => ?_⟩
      · obtain ⟨o, es, ep, q, d, _⟩ := hm
        rw [e] at b3
        cases q.symm.trans b3
        rw [b6] at d
        cases d
      · rw [e, tb m] at b3
        cases b3
        cases b6
      · obtain ⟨o, es, ep, q, d, _⟩ := hm
        rw [e, tb m] at q
        cases q
        cases d
    have e0 : Env0 P w K mg (hidT z.heap H) callerA [] z H := ⟨rfl, md, fun b o q => of_hidT q, Nat.le_of_eq (hidT_size _ _), trivial, fun b q => (nomatch q), ok, .of_eq hg⟩
    refine codeAny_mono ((F _ kin (nsp hm) TB).go callerA rfl hr [] z H ⟨[.ref a], []⟩ [.ref a] [.ref a] _ _ e0 (bd z (.ref a)) (.cons rfl .nil) (hs _ tabs hS)) ?_
    rintro (er | fl) s' h
    · exact (hC _ er s' h).elim
    · cases fl with
      | next => exact h.elim
      | brk => exact h.elim
      | cont => exact h.elim
      | ret y =>
        obtain ⟨v, H', os, bare, un, ok', r', q, qt⟩ := h
        subst q
        cases (r' : y = Value.bool true)
        have same : ∀ b o, b ∉ cs.map (·.2) → z.heap.get? b = some o → s'.heap.get? b = some o := fun b o nb e => by
          by_cases nn : H b = none
          · exact un.keep b o e nn (fun z => nomatch z) (by simp)
          · by_cases ea : b = a
            · subst ea
              rcases hu with hu | ⟨o2, xs, hu⟩
              · exact absurd (off (fun _ => hu) nb) nn
              · have e2 : H b = some (.frz o2 (.lst xs)) := by rw [← hH, onlyT_at]; exact hu
                have g1 := (ok b _ e2).1
                rw [e] at g1
                cases g1
                exact (ok' b _ (un.frzs b _ _ e2)).1
            · exact absurd (off (fun e => absurd e ea) nb) nn
        have grown : ∀ p ∈ cs, ∃ more : Array Value, s'.heap.get? p.2 = some { cls := .none, data := .fields more } := fun p mp => by
          obtain ⟨⟨ps, e, _⟩, _⟩ := (show ObjOk P w H' s'.heap p.2 (.ext (tabP p.2)) from ok' p.2 _ (qt p mp))
          exact ⟨ps, e⟩
        refine ⟨rfl, ⟨fun b o e => ?_, fun b o e => ?_⟩, os, bare⟩
        · by_cases m : b ∈ cs.map (·.2)
          · obtain ⟨p, mp, rfl⟩ := List.mem_map.mp m
            obtain ⟨more, e2⟩ := grown p mp
            rw [hT p mp] at e
            cases e
            exact .inr (.inl ⟨((PySem.W.codeHd_of_K KX (hc p mp)).tab (hT p mp)).isCodeTable, rfl, #[], more, rfl, by simpa using e2⟩)
          · exact .inl (same b o m e)
        · by_cases m : b ∈ cs.map (·.2)
          · obtain ⟨p, mp, rfl⟩ := List.mem_map.mp m
            obtain ⟨more, e2⟩ := grown p mp
            exact ⟨_, e2⟩
          · exact ⟨o, same b o m e⟩
  have tOk : ∀ {u : Option HO} {b : Addr} {o : HO}, b ≠ a → onlyT a u (cs.map (·.2)) b = some o → ObjOk P w (onlyT a u (cs.map (·.2))) z.heap b o := fun {u b o} ne e => by
    by_cases m : b ∈ cs.map (·.2)
    · rw [onlyT_tab ne m] at e
      cases e
      exact ⟨⟨#[], tb m, trivial⟩, ⟨_, tb m⟩, fun h1 h2 t q => tabP_keeps t q⟩
    · rw [onlyT_off ne m] at e
      cases e
  cases hk : K.lookup a with
  | some o =>
    have e := KX a o hk
    rw [ha] at e
    cases e
    exact main none (.inl rfl) (.inr ⟨_, vs.toArray, _, hk, rfl, rfl, rfl, by rw [List.size_toArray, hi.length]; exact hl, by simpa using rv⟩) (fun b u q => by
      by_cases e : b = a
      · rw [e, onlyT_at] at q; cases q
      · exact tOk e q) fun q => absurd rfl q
  | none =>
    exact main (some (.frz { cls := .type "list", data := .seq vs.toArray } (.lst (ns.map V.int)))) (.inr ⟨_, _, rfl⟩) (.inl (.inr ⟨{ cls := .type "list", data := .seq vs.toArray }, onlyT_at⟩)) (fun b u q => by
      by_cases e : b = a
      · subst e
        rw [onlyT_at] at q
        cases q
        exact ⟨ha, by rw [List.length_map]; exact hl, vs, _, rv, ha⟩
      · exact tOk e q) fun _ => hk
end
/-- F tells the law's def, and which tables there are -/
theorem walkGT {l : PySem.W.OpenLaw} {n k : Nat} {q : Program} {loose : List Str} {XP : (Str → Option Value) → Heap → Prop} {YP : World → Heap → Prop} {d : DefRec} {K : Params → PySem.W.Frag} {C : World → CXT} {x : Str}
    (hn : l.most = some n) (hn2 : n ≤ sizeLine) (hdf : d.params.defaults = []) (hr : Room k callerA) (hY : ∀ (w : World) (h : Heap), YP w h → (K w.params).In h)
    (F : ∀ (w : World) (mg : Str → Option Value) (fa : Addr) (hp : Heap), (K w.params).In hp → hp.Ns mainGlobals mg → (∀ (y : Str) (c P : Addr) (dr : DefRec), (recsOf q).find? (fun e => e.name == y) = some dr → PySem.W.tabIn (K w.params) y = some (c, P) → hp.get? P = some { cls := .none, data := .fields #[] }) → mg d.name = some (.ref fa) →
      ∃ (fd : FuncData) (cs : List (Addr × Addr)) (sp : Sp), (∀ p ∈ cs, hp.get? p.2 = some { cls := .none, data := .fields #[] }) ∧ (∀ p ∈ cs, (K w.params).lookup p.2 = none) ∧ (∀ p ∈ cs, PySem.W.codeHdIn (K w.params) p.1 p.2 = true) ∧ (∀ (s : Shared) (u : Value), BindsTo s fd ⟨[u], []⟩ [(x, u)]) ∧
        (∀ (H : Hp) (a : Addr) (ns : List Int), ns.length ≤ n → (∀ p ∈ cs, H p.2 = some (.ext (tabP p.2))) → SqL (K w.params) H a (ns.map V.int) → sp [.ref a] H (fun v H' => v = .bl true ∧ ∀ p ∈ cs, H' p.2 = some (.ext (tabP p.2))) fun _ _ _ => False) ∧
        ∀ base : Heap, (K w.params).In base → base.Ns mainGlobals mg → (∀ p ∈ cs, GxR.TabB base mg p.1 p.2) → FnG l.prog w (K w.params) mg base (C w) k fa fd [x] sp)
    (hC : ∀ (w : World) (H : Hp) (s : Shared) (e : Value) (s' : Shared), C w [] H s (fun _ _ _ => False) e s' → False) : PySem.W.WalkO q loose XP YP l.row.toRowW d [] (fun f vs => PySem.call f vs) := by
  apply Att.attach_call hn hdf
  intro w s₀ z mg mb fa o pm cd doc a vs ns G Y ho hd hcd hmg hobj hints hlen hg
  obtain ⟨fd, cs, sp, h1, h2, h3, h4, h5, h6⟩ := F w mg fa _ (hY w _ Y) G.T.g (fun y c P dr e1 e2 => (PySem.W.tab_of G.T (hY w _ Y) e1 e2).2) hmg
  exact lawGT (hY w _ Y) G.T.g G.T.b G.T.builtins G.T.nolimit hg h1 h2 h3 G.T.bmain hobj hints (Nat.le_trans hlen hn2) hr h6 h4 (fun H hH hS => h5 H a ns hlen hH hS) fun H e s' => hC w H z e s'
end DL
namespace EV
open PySem PySem.Spec PyProof.Rows L2 DL
theorem mono_var {i : Nat} : ∀ (σ : L2.St) (H : Hp) (Q Q' : VK), (∀ v H', Q v H' → Q' v H') → tVar i σ H Q → tVar i σ H Q' := fun _ _ _ _ f ⟨v, e, q⟩ => ⟨v, e, f _ _ q⟩
/-- a def whose code object is at c -/
structure FunC (K : PySem.W.Frag) (x qual : Str) (st : Stmt) (f : Addr) (fd : FuncData) (c : Addr) : Prop where
  ex : ∃ (oc : Value) (od : Option Addr) (kV doc pm : Value) (an : Option Addr) (ct : Value) (osl : Array (Option Value)),
    fd = PySem.W.fnOf x qual (defArgs st) (defBody st) (defScope st) .none kV doc pm an (.ref c) ct ∧ K.lookup f = some ⟨oc, od, .func fd, osl⟩ ∧ PySem.W.codeIn K (.ref c) qual = true
section
variable [TabC]
variable {P : Program} {w : World} {K : PySem.W.Frag} {mg : Str → Option Value} {base : Heap} {x qual : Str} {st : Stmt} {f c : Addr} {fd : FuncData} {N ps : List Str} {k : Nat}
theorem def_DC {R : List D → RetV → Prop} (Fn : FunC K x qual st f fd c) (S : FnScope N ps (defScope st)) (len : ∀ ds r, R ds r → ds.length = ps.length) {t : TS}
    (ht : ∀ (A : Around) (outer : List PySem.Env) (s : Shared) (H : Hp) (E : XK), Room k (A.deeper (envOfC qual (defScope st) s.heap.objs.size f (.ref c))) → PSs (cxOf CX0 P w K mg base N qual (defScope st) f (.ref c) A outer s H E).nox (defBody st) t)
    (hv : ∀ ds r, R ds r → Sv (gm K []) t (rho0 N (ds.map .dat)) (RetP r)) : FnOk P w K mg base CX0 (k + 1) f fd ps (spD R K) := by
  obtain ⟨oc, od, kV, doc, pm, an, ct, osl, rfl, lk, hcd⟩ := Fn.ex
  refine fn_of lk hcd S (fun vs H Q E h => ?_) fun A outer s H vs Q E hr h => ?_
  · obtain ⟨F, ds, r, _, h1, h2, _⟩ := h
    rw [dpAllLen h1]
    exact len ds r h2
  · obtain ⟨F, ds, r, e, h1, h2, q⟩ := h
    exact ⟨t, (ht A outer s H E hr).nox, body_D e h1 (hv ds r h2) q⟩
end
end EV
namespace K04
open PySem PySem.Spec PyProof.Rows L2 DL EV CS
def topS (i : Nat) : Stmt := PySem.Challenge.pw_scarp_k04_machines_read_logs.main.body.getD i (.Pass ⟨0, 0, 0, 0⟩)
def cl0 (fA cA : Nat → Addr) : Cl := ⟨cA 2, cA 3, cA 4, cA 5, cA 6, cA 7, cA 1, fun n => match n with | _ => fA 0⟩
variable [TabC]
structure Txt (K : PySem.W.Frag) (mg : Str → Option Value) (fA : Nat → Addr) (fD : Nat → FuncData) (cA cC cP : Nat → Addr) (base : Heap) : Prop where
  F_l_next : Fun K "_law_next" "_law_next" (topS 24) (fA 24) (fD 24)
  g_l_next : mg "_law_next" = some (.ref (fA 24))
  b_l_next : Binds K (fD 24) ["state", "many"] []
  F_l_word : Fun K "_law_word" "_law_word" (topS 25) (fA 25) (fD 25)
  g_l_word : mg "_law_word" = some (.ref (fA 25))
  b_l_word : Binds K (fD 25) ["state", "taken"] []
  F_l_letters : Fun K "_law_letters" "_law_letters" (topS 26) (fA 26) (fD 26)
  g_l_letters : mg "_law_letters" = some (.ref (fA 26))
  b_l_letters : Binds K (fD 26) ["state", "many"] []
  F_l_stream : Fun K "_law_stream" "_law_stream" (topS 23) (fA 23) (fD 23)
  g_l_stream : mg "_law_stream" = some (.ref (fA 23))
  b_l_stream : Binds K (fD 23) ["script"] []
  F_l_machine : Fun K "_law_machine" "_law_machine" (topS 27) (fA 27) (fD 27)
  g_l_machine : mg "_law_machine" = some (.ref (fA 27))
  b_l_machine : Binds K (fD 27) ["state", "letters", "rooms"] []
  F_l_log : Fun K "_law_log" "_law_log" (topS 29) (fA 29) (fD 29)
  g_l_log : mg "_law_log" = some (.ref (fA 29))
  b_l_log : Binds K (fD 29) ["state", "letters", "many"] []
  F_l_behind : Fun K "_law_behind" "_law_behind" (topS 28) (fA 28) (fD 28)
  g_l_behind : mg "_law_behind" = some (.ref (fA 28))
  b_l_behind : Binds K (fD 28) ["machine", "log"] []
  F_room_behind : Fun K "room_behind" "room_behind" (topS 19) (fA 19) (fD 19)
  g_room_behind : mg "room_behind" = some (.ref (fA 19))
  b_room_behind : Binds K (fD 19) ["machine", "log"] []
  F_lets : Fun K "lets" "lets" (topS 20) (fA 20) (fD 20)
  g_lets : mg "lets" = some (.ref (fA 20))
  b_lets : Binds K (fD 20) ["machine", "log"] []
  F_is_word : Fun K "is_word" "is_word" (topS 13) (fA 13) (fD 13)
  g_is_word : mg "is_word" = some (.ref (fA 13))
  b_is_word : Binds K (fD 13) ["text"] []
  F_check_letters : Fun K "check_letters" "check_letters" (topS 14) (fA 14) (fD 14)
  g_check_letters : mg "check_letters" = some (.ref (fA 14))
  b_check_letters : Binds K (fD 14) ["letters"] []
  F_check_rooms : Fun K "_check_rooms" "_check_rooms" (topS 18) (fA 18) (fD 18)
  g_check_rooms : mg "_check_rooms" = some (.ref (fA 18))
  b_check_rooms : Binds K (fD 18) ["rooms", "many"] []
  F_check_machine : Fun K "check_machine" "check_machine" (topS 17) (fA 17) (fD 17)
  g_check_machine : mg "check_machine" = some (.ref (fA 17))
  b_check_machine : Binds K (fD 17) ["machine"] []
  F_l_refused : Fun K "_law_refused" "_law_refused" (topS 30) (fA 30) (fD 30)
  g_l_refused : mg "_law_refused" = some (.ref (fA 30))
  b_l_refused : Binds K (fD 30) ["machine"] []
  F_l_spoilt : Fun K "_law_spoilt" "_law_spoilt" (topS 31) (fA 31) (fD 31)
  g_l_spoilt : mg "_law_spoilt" = some (.ref (fA 31))
  b_l_spoilt : Binds K (fD 31) ["state", "machine"] []
  F_l_same : Fun K "_law_same" "_law_same" (topS 22) (fA 22) (fD 22)
  g_l_same : mg "_law_same" = some (.ref (fA 22))
  b_l_same : Binds K (fD 22) ["told", "due"] []
  F_law : Fun K "law" "law" (topS 32) (fA 32) (fD 32)
  g_law : mg "law" = some (.ref (fA 32))
  b_law : Binds K (fD 32) ["script"] []
  n_abs : mg "abs" = none
  n_all : mg "all" = none
  n_enumerate : mg "enumerate" = none
  n_int : mg "int" = none
  n_isinstance : mg "isinstance" = none
  n_len : mg "len" = none
  n_range : mg "range" = none
  n_repr : mg "repr" = none
  n_tuple : mg "tuple" = none
  q_is_word : FunC K "is_word" "is_word" (topS 13) (fA 13) (fD 13) (cC 13)
  tb_is_word : GxR.TabB base mg (cC 13) (cP 13)
  pt_is_word : cP 13 ∈ TabC.tabs
  c_MAX_LETTERS : ∃ t, mg "MAX_LETTERS" = some (.int 4 t)
  c_MAX_ROOMS : ∃ t, mg "MAX_ROOMS" = some (.int 8 t)
  c_MAX_WORD : ∃ t, mg "MAX_WORD" = some (.int 8 t)
  c_RESERVED : TupC K mg "RESERVED" ["any", "empty", "none", "and", "or", "not", "again"]
  c_SMALL_LETTERS : ∃ t, mg "SMALL_LETTERS" = some (.str "abcdefghijklmnopqrstuvwxyz" t)
  kn : KsOk K (cl0 fA cA).se [(cl0 fA cA).na, (cl0 fA cA).tl, (cl0 fA cA).mi, (cl0 fA cA).bp, (cl0 fA cA).bf, (cl0 fA cA).br]
  g_BadForm : mg "BadForm" = some (.ref (cA 6))
  g_BadPaper : mg "BadPaper" = some (.ref (cA 5))
  g_Broken : mg "Broken" = some (.ref (cA 7))
  g_Missing : mg "Missing" = some (.ref (cA 4))
  g_NotAllowed : mg "NotAllowed" = some (.ref (cA 2))
  g_ScarpError : mg "ScarpError" = some (.ref (cA 1))
  g_TooLarge : mg "TooLarge" = some (.ref (cA 3))
  x_NotAllowed : PySem.W.excIn K (cA 2) [.type "ValueError", .type "Exception", .type "BaseException", .type "object"] "ValueError.__new__" = true
  k_NotAllowed : PySem.W.keepIn K (.ref (cA 2)) = true
  s_NotAllowed : PySem.W.subIn K (.ref (cA 2)) (.type "BaseException") = some true
  t_NotAllowed : PySem.W.typeIn K (.ref (cA 2)) = some (.type "type")
section
variable {P : Program} {w : World} {K : PySem.W.Frag} {mg : Str → Option Value} {base : Heap} {fA : Nat → Addr} {fD : Nat → FuncData} {cA cC cP : Nat → Addr}
abbrev sl_next : Stmt := topS 24
theorem scl_next : FnScope ["state", "many", "turn"] ["state", "many"] (defScope sl_next) := ⟨rfl, rfl, rfl, by decide +kernel, rfl, by decide +kernel, by decide +kernel⟩
def tml_next (K : PySem.W.Frag) (fA cA : Nat → Addr) : TS :=
  tSeq (tAsg (tOp (opK K .add) (tOp (opK K .ix) (tVar 0) (tC (.int 1))) (tC (.int 1))) (gSub (tVar 0) (tC (.int 1)) rSetL)) (tSeq (tAsg (tOp (opK K .fdiv) (tOp (opK K .ix) (tVar 0) (tC (.int 1))) (tCB (bfK K .len) (tCons (tOp (opK K .ix) (tVar 0) (tC (.int 0))) (tNil)))) (gName 2)) (tRet (tOp (opK K .mod) (tCB (bfK K .int) (tCons (tOp (opK K .add) (tOp (opK K .add) (tOp (opK K .ix) (tOp (opK K .ix) (tVar 0) (tC (.int 0))) (tOp (opK K .mod) (tOp (opK K .ix) (tVar 0) (tC (.int 1))) (tCB (bfK K .len) (tCons (tOp (opK K .ix) (tVar 0) (tC (.int 0))) (tNil))))) (tOp (opK K .mul) (tVar 2) (tC (.int 389)))) (tOp (opK K .mul) (tOp (opK K .mul) (tOp (opK K .ix) (tVar 0) (tC (.int 1))) (tVar 2)) (tC (.int 17)))) (tNil))) (tVar 1))))
theorem dnl_next (K : PySem.W.Frag) (fA cA : Nat → Addr) : denS K E0 c_l_next = tml_next K fA cA := rfl
theorem htl_next (T : Txt K mg fA fD cA cC cP base)  (cdv : Value) (A : Around) (outer : List PySem.Env) (s : Shared) (H : Hp) (E : XK) (hr : Room 0 (A.deeper (envOfC "_law_next" (defScope sl_next) s.heap.objs.size (fA 24) cdv))) :
    PSs ((cxOf CX0 P w K mg base ["state", "many", "turn"] "_law_next" (defScope sl_next) (fA 24) cdv A outer s H E).nox) (defBody sl_next) (tml_next K fA cA) :=
  pss_cons (ps_asg (pe_op opr_add (pe_ix ix_seq (pv 0) (pe_int) (fun _ _ => rfl)) (pe_int)) (pg_sub (pv 0) (pe_int) set_list))
    (pss_cons (ps_set (i := 2) scl_next.nd rfl (by first | exact Or.inl rfl | exact Or.inr rfl) (pe_op opr_fdiv (pe_ix ix_seq (pv 0) (pe_int) (fun _ _ => rfl)) (pe_callB cf_len (by rfl) T.n_len PySem.boot_len (pa_cons (pe_ix ix_seq (pv 0) (pe_int) (fun _ _ => rfl)) (pa_nil)))))
    (pss_one (ps_ret (pe_op opr_mod (pe_callTy cf_int (by rfl) T.n_int (by decide +kernel) (pa_cons (pe_op opr_add (pe_op opr_add (pe_ix ix_seq (pe_ix ix_seq (pv 0) (pe_int) (fun _ _ => rfl)) (pe_op opr_mod (pe_ix ix_seq (pv 0) (pe_int) (fun _ _ => rfl)) (pe_callB cf_len (by rfl) T.n_len PySem.boot_len (pa_cons (pe_ix ix_seq (pv 0) (pe_int) (fun _ _ => rfl)) (pa_nil)))) (fun _ _ => rfl)) (pe_op opr_mul (pv 2) (pe_int))) (pe_op opr_mul (pe_op opr_mul (pe_ix ix_seq (pv 0) (pe_int) (fun _ _ => rfl)) (pv 2)) (pe_int))) (pa_nil))) (pv 1)))))
theorem okl_next (T : Txt K mg fA fD cA cC cP base) : FnOk P w K mg base CX0 1 (fA 24) (fD 24) ["state", "many"] (spS (fun st ds r st' => f_l_next st ds = some (r, st')) K) :=
  def_S T.F_l_next scl_next (fun _ _ _ _ h => len_S h) (t := denS K E0 c_l_next) (fun cdv A outer s H E hr => (dnl_next K fA cA) ▸ htl_next T  cdv A outer s H E hr) (fun _ _ _ _ h => run_S (side_of (by rfl)) h)
abbrev sl_word : Stmt := topS 25
theorem scl_word : FnScope ["state", "taken", "word", "k"] ["state", "taken"] (defScope sl_word) := ⟨rfl, rfl, rfl, by decide +kernel, rfl, by decide +kernel, by decide +kernel⟩
def tml_word (K : PySem.W.Frag) (fA cA : Nat → Addr) : TS :=
  tSeq (tAsg (tC (.str "")) (gName 2)) (tSeq (tFor (iRng1 (tCons (tOp (opK K .ix) (tLst (tCons (tC (.int 1)) (tCons (tC (.int 2)) (tCons (tOp (opK K .add) (tC (.int 1)) (tCall (spS (fun st ds r st' => f_l_next st ds = some (r, st')) K) [] E0 (tCons (tVar 0) (tCons (tC (.int 8)) (tNil))))) (tNil))))) (tCall (spS (fun st ds r st' => f_l_next st ds = some (r, st')) K) [] E0 (tCons (tVar 0) (tCons (tC (.int 3)) (tNil))))) (tNil))) (gName 3) (tAsg (tOp (opK K .add) (tVar 2) (tOp (opK K .ix) (tC (.str "abyz")) (tCall (spS (fun st ds r st' => f_l_next st ds = some (r, st')) K) [] E0 (tCons (tVar 0) (tCons (tC (.int 4)) (tNil)))))) (gName 2))) (tSeq (tIfS (tTest (tOp (opK K .isIn) (tVar 2) (tVar 1))) (tRet (tOp (opK K .add) (tC (.str "c")) (tOp (opK K .ix) (tC (.str "abcdefghijklmnopqrstuvwxyz")) (tCB (bfK K .len) (tCons (tVar 1) (tNil)))))) (tNext)) (tRet (tVar 2))))
theorem dnl_word (K : PySem.W.Frag) (fA cA : Nat → Addr) : denS K E0 c_l_word = tml_word K fA cA := rfl
theorem htl_word (T : Txt K mg fA fD cA cC cP base) (G_l_next : FnOk P w K mg base CX0 1 (fA 24) (fD 24) ["state", "many"] (spS (fun st ds r st' => f_l_next st ds = some (r, st')) K)) (cdv : Value) (A : Around) (outer : List PySem.Env) (s : Shared) (H : Hp) (E : XK) (hr : Room 1 (A.deeper (envOfC "_law_word" (defScope sl_word) s.heap.objs.size (fA 25) cdv))) :
    PSs ((cxOf CX0 P w K mg base ["state", "taken", "word", "k"] "_law_word" (defScope sl_word) (fA 25) cdv A outer s H E).nox) (defBody sl_word) (tml_word K fA cA) :=
  pss_cons (ps_set (i := 2) scl_word.nd rfl (by first | exact Or.inl rfl | exact Or.inr rfl) (pe_str))
    (pss_cons (ps_for PassesOwn.never rfl (pi_range1 (by rfl) T.n_range (pa_cons (pe_ix ix_seq (pe_lst (pa_cons (pe_int) (pa_cons (pe_int) (pa_cons (pe_op opr_add (pe_int) (pe_call G_l_next (hr.mono (by decide)) (by rfl) T.g_l_next T.F_l_next.kp T.b_l_next .nil pass0 (pa_cons (pv 0) (pa_cons (pe_int) (pa_nil))))) (pa_nil))))) (pe_call G_l_next (hr.mono (by decide)) (by rfl) T.g_l_next T.F_l_next.kp T.b_l_next .nil pass0 (pa_cons (pv 0) (pa_cons (pe_int) (pa_nil)))) (fun _ _ => rfl)) (pa_nil))) (pg_name (i := 3) scl_word.nd rfl (by first | exact Or.inl rfl | exact Or.inr rfl))
    (pss_one (ps_set (i := 2) scl_word.nd rfl (by first | exact Or.inl rfl | exact Or.inr rfl) (pe_op opr_add (pv 2) (pe_ix ix_seq (pe_str) (pe_call G_l_next (hr.mono (by decide)) (by rfl) T.g_l_next T.F_l_next.kp T.b_l_next .nil pass0 (pa_cons (pv 0) (pa_cons (pe_int) (pa_nil)))) (fun _ _ => rfl))))))
    (pss_cons (ps_if (pt_cmpR (opr_in (units65 hr)) (pv 2) (pv 1) rfl) (pss_one (ps_ret (pe_op opr_add (pe_str) (pe_ix ix_seq (pe_str) (pe_callB cf_len (by rfl) T.n_len PySem.boot_len (pa_cons (pv 1) (pa_nil))) (fun _ _ => rfl))))) (pss_nil))
    (pss_one (ps_ret (pv 2)))))
theorem okl_word (T : Txt K mg fA fD cA cC cP base) : FnOk P w K mg base CX0 2 (fA 25) (fD 25) ["state", "taken"] (spS (fun st ds r st' => f_l_word st ds = some (r, st')) K) :=
  def_S T.F_l_word scl_word (fun _ _ _ _ h => len_S h) (t := denS K E0 c_l_word) (fun cdv A outer s H E hr => (dnl_word K fA cA) ▸ htl_word T (okl_next T) cdv A outer s H E hr) (fun _ _ _ _ h => run_S (side_of (by rfl)) h)
abbrev sl_letters : Stmt := topS 26
theorem scl_letters : FnScope ["state", "many", "found", "k"] ["state", "many"] (defScope sl_letters) := ⟨rfl, rfl, rfl, by decide +kernel, rfl, by decide +kernel, by decide +kernel⟩
def tml_letters (K : PySem.W.Frag) (fA cA : Nat → Addr) : TS :=
  tSeq (tAsg (tLst (tNil)) (gName 2)) (tSeq (tFor (iRng1 (tCons (tVar 1) (tNil))) (gName 3) (tDrop (tBM K "list" rAppend (tVar 2) (tCons (tCall (spS (fun st ds r st' => f_l_word st ds = some (r, st')) K) [] E0 (tCons (tVar 0) (tCons (tVar 2) tNil))) tNil)))) (tRet (tCB (bfK K .tuple) (tCons (tVar 2) (tNil)))))
theorem dnl_letters (K : PySem.W.Frag) (fA cA : Nat → Addr) : denS K E0 c_l_letters_2 = tml_letters K fA cA := rfl
theorem htl_letters (T : Txt K mg fA fD cA cC cP base) (G_l_word : FnOk P w K mg base CX0 2 (fA 25) (fD 25) ["state", "taken"] (spS (fun st ds r st' => f_l_word st ds = some (r, st')) K)) (cdv : Value) (A : Around) (outer : List PySem.Env) (s : Shared) (H : Hp) (E : XK) (hr : Room 2 (A.deeper (envOfC "_law_letters" (defScope sl_letters) s.heap.objs.size (fA 26) cdv))) :
    PSs ((cxOf CX0 P w K mg base ["state", "many", "found", "k"] "_law_letters" (defScope sl_letters) (fA 26) cdv A outer s H E).nox) (defBody sl_letters) (tml_letters K fA cA) :=
  pss_cons (ps_set (i := 2) scl_letters.nd rfl (by first | exact Or.inl rfl | exact Or.inr rfl) (pe_lst (pa_nil)))
    (pss_cons (ps_for PassesOwn.never rfl (pi_range1 (by rfl) T.n_range (pa_cons (pv 1) (pa_nil))) (pg_name (i := 3) scl_letters.nd rfl (by first | exact Or.inl rfl | exact Or.inr rfl))
    (pss_one (ps_expr (pe_bm PySem.F.plainAttrs_list PySem.F.slot_list_append PySem.F.type_list_append mt_append (pv 2) (pa_cons (pe_call G_l_word (hr.mono (by decide)) (by rfl) T.g_l_word T.F_l_word.kp T.b_l_word .nil pass0 (pa_cons (pv 0) (pa_cons (pv 2) (pa_nil)))) pa_nil)))))
    (pss_one (ps_ret (pe_callTy cf_tuple (by rfl) T.n_tuple (by decide +kernel) (pa_cons (pv 2) (pa_nil))))))
theorem okl_letters (T : Txt K mg fA fD cA cC cP base) : FnOk P w K mg base CX0 3 (fA 26) (fD 26) ["state", "many"] (spS (fun st ds r st' => f_l_letters_2 st ds = some (r, st')) K) :=
  def_S T.F_l_letters scl_letters (fun _ _ _ _ h => len_S h) (t := denS K E0 c_l_letters_2) (fun cdv A outer s H E hr => (dnl_letters K fA cA) ▸ htl_letters T (okl_word T) cdv A outer s H E hr) (fun _ _ _ _ h => run_S (side_of (by rfl)) h)
abbrev sl_stream : Stmt := topS 23
theorem scl_stream : FnScope ["script", "numbers", "cell", "rest", "k", "mixed"] ["script"] (defScope sl_stream) := ⟨rfl, rfl, rfl, by decide +kernel, rfl, by decide +kernel, by decide +kernel⟩
def tml_stream (K : PySem.W.Frag) (fA cA : Nat → Addr) : TS :=
  tSeq (tAsg (tLst (tNil)) (gName 1)) (tSeq (tFor (uIter K (tSl (rSlU K) (tVar 0) (tNoPart) (tPart (tC (.int 63))))) (gName 2) (tSeq (tAsg (tCB (bfK K .abs) (tCons (tCB (bfK K .int) (tCons (tVar 2) (tNil))) (tNil))) (gName 3)) (tIfS (tTest (tOp (opK K .ge) (tVar 3) (tOp (opK K .pow) (tC (.int 10)) (tC (.int 18))))) (tFor (iRng1 (tCons (tC (.int 60)) (tNil))) (gName 4) (tSeq (tDrop (tBM K "list" rAppend (tVar 1) (tCons (tOp (opK K .mod) (tCB (bfK K .int) (tCons (tVar 3) (tNil))) (tC (.int 1009))) tNil))) (tSeq (tAsg (tOp (opK K .fdiv) (tVar 3) (tC (.int 1009))) (gName 3)) (tIfS (tTest (tOp (opK K .eq) (tVar 3) (tC (.int 0)))) (tBreak) (tNext))))) (tSeq (tAsg (tOp (opK K .mod) (tCB (bfK K .int) (tCons (tVar 3) (tNil))) (tC (.int 2147483647))) (gName 5)) (tFor (iRng1 (tCons (tC (.int 10)) (tNil))) (gName 4) (tSeq (tAsg (tOp (opK K .mod) (tCB (bfK K .int) (tCons (tOp (opK K .add) (tOp (opK K .add) (tOp (opK K .mul) (tVar 5) (tC (.int 48271))) (tOp (opK K .mul) (tC (.int 7)) (tVar 4))) (tC (.int 11))) (tNil))) (tC (.int 2147483647))) (gName 5)) (tDrop (tBM K "list" rAppend (tVar 1) (tCons (tOp (opK K .mod) (tOp (opK K .mod) (tCB (bfK K .int) (tCons (tOp (opK K .add) (tOp (opK K .mul) (tVar 5) (tC (.int 69621))) (tVar 4)) (tNil))) (tC (.int 2147483629))) (tC (.int 1009))) tNil))))))))) (tSeq (tIfS (tTest (tOp (opK K .eq) (tCB (bfK K .len) (tCons (tVar 1) (tNil))) (tC (.int 0)))) (tDrop (tBM K "list" rAppend (tVar 1) (tCons (tC (.int 0)) tNil))) (tNext)) (tRet (tVar 1))))
theorem dnl_stream (K : PySem.W.Frag) (fA cA : Nat → Addr) : denS K E0 c_l_stream = tml_stream K fA cA := rfl
theorem htl_stream (T : Txt K mg fA fD cA cC cP base)  (cdv : Value) (A : Around) (outer : List PySem.Env) (s : Shared) (H : Hp) (E : XK) (hr : Room 0 (A.deeper (envOfC "_law_stream" (defScope sl_stream) s.heap.objs.size (fA 23) cdv))) :
    PSs ((cxOf CX0 P w K mg base ["script", "numbers", "cell", "rest", "k", "mixed"] "_law_stream" (defScope sl_stream) (fA 23) cdv A outer s H E).nox) (defBody sl_stream) (tml_stream K fA cA) :=
  pss_cons (ps_set (i := 1) scl_stream.nd rfl (by first | exact Or.inl rfl | exact Or.inr rfl) (pe_lst (pa_nil)))
    (pss_cons (ps_for PassesOwn.never rfl (pi_u (pe_slice sl_u (pv 0) (po_none) (po_some (pe_int)))) (pg_name (i := 2) scl_stream.nd rfl (by first | exact Or.inl rfl | exact Or.inr rfl))
    (pss_cons (ps_set (i := 3) scl_stream.nd rfl (by first | exact Or.inl rfl | exact Or.inr rfl) (pe_callB cf_abs (by rfl) T.n_abs (by decide +kernel) (pa_cons (pe_callTy cf_int (by rfl) T.n_int (by decide +kernel) (pa_cons (pv 2) (pa_nil))) (pa_nil))))
    (pss_one (ps_if (pt_cmpR opr_ge (pv 3) (pe_op opr_pow (pe_int) (pe_int)) (nomark _)) (pss_one (ps_for PassesOwn.never rfl (pi_range1 (by rfl) T.n_range (pa_cons (pe_int) (pa_nil))) (pg_name (i := 4) scl_stream.nd rfl (by first | exact Or.inl rfl | exact Or.inr rfl))
    (pss_cons (ps_expr (pe_bm PySem.F.plainAttrs_list PySem.F.slot_list_append PySem.F.type_list_append mt_append (pv 1) (pa_cons (pe_op opr_mod (pe_callTy cf_int (by rfl) T.n_int (by decide +kernel) (pa_cons (pv 3) (pa_nil))) (pe_int)) pa_nil)))
    (pss_cons (ps_set (i := 3) scl_stream.nd rfl (by first | exact Or.inl rfl | exact Or.inr rfl) (pe_op opr_fdiv (pv 3) (pe_int)))
    (pss_one (ps_if (pt_cmpR (opr_eq hr.units) (pv 3) (pe_int) (nomark _)) (pss_one (ps_break)) (pss_nil))))))) (pss_cons (ps_set (i := 5) scl_stream.nd rfl (by first | exact Or.inl rfl | exact Or.inr rfl) (pe_op opr_mod (pe_callTy cf_int (by rfl) T.n_int (by decide +kernel) (pa_cons (pv 3) (pa_nil))) (pe_int)))
    (pss_one (ps_for PassesOwn.never rfl (pi_range1 (by rfl) T.n_range (pa_cons (pe_int) (pa_nil))) (pg_name (i := 4) scl_stream.nd rfl (by first | exact Or.inl rfl | exact Or.inr rfl))
    (pss_cons (ps_set (i := 5) scl_stream.nd rfl (by first | exact Or.inl rfl | exact Or.inr rfl) (pe_op opr_mod (pe_callTy cf_int (by rfl) T.n_int (by decide +kernel) (pa_cons (pe_op opr_add (pe_op opr_add (pe_op opr_mul (pv 5) (pe_int)) (pe_op opr_mul (pe_int) (pv 4))) (pe_int)) (pa_nil))) (pe_int)))
    (pss_one (ps_expr (pe_bm PySem.F.plainAttrs_list PySem.F.slot_list_append PySem.F.type_list_append mt_append (pv 1) (pa_cons (pe_op opr_mod (pe_op opr_mod (pe_callTy cf_int (by rfl) T.n_int (by decide +kernel) (pa_cons (pe_op opr_add (pe_op opr_mul (pv 5) (pe_int)) (pv 4)) (pa_nil))) (pe_int)) (pe_int)) pa_nil))))))))))))
    (pss_cons (ps_if (pt_cmpR (opr_eq hr.units) (pe_callB cf_len (by rfl) T.n_len PySem.boot_len (pa_cons (pv 1) (pa_nil))) (pe_int) (nomark _)) (pss_one (ps_expr (pe_bm PySem.F.plainAttrs_list PySem.F.slot_list_append PySem.F.type_list_append mt_append (pv 1) (pa_cons (pe_int) pa_nil)))) (pss_nil))
    (pss_one (ps_ret (pv 1)))))
theorem okl_stream (T : Txt K mg fA fD cA cC cP base) : FnOk P w K mg base CX0 1 (fA 23) (fD 23) ["script"] (spD (fun ds r => f_l_stream ds = some r) K) :=
  def_D T.F_l_stream scl_stream (fun _ _ h => len_D h) (t := denS K E0 c_l_stream) (fun cdv A outer s H E hr => (dnl_stream K fA cA) ▸ htl_stream T  cdv A outer s H E hr) (fun _ _ h => run_D (side_of (by rfl)) h)
abbrev sl_machine : Stmt := topS 27
theorem scl_machine : FnScope ["state", "letters", "rooms", "moves", "room", "good", "letter"] ["state", "letters", "rooms"] (defScope sl_machine) := ⟨rfl, rfl, rfl, by decide +kernel, rfl, by decide +kernel, by decide +kernel⟩
def tml_machine (K : PySem.W.Frag) (fA cA : Nat → Addr) : TS :=
  tSeq (tAsg (tLst (tNil)) (gName 3)) (tSeq (tFor (iRng1 (tCons (tVar 2) (tNil))) (gName 4) (tDrop (tBM K "list" rAppend (tVar 3) (tCons (tCB (bfK K .tuple) (tCons (tLc (uIter K (tVar 1)) (gName 6) (tYes) (tCall (spS (fun st ds r st' => f_l_next st ds = some (r, st')) K) [] E0 (tCons (tVar 0) (tCons (tVar 2) (tNil)))) [6]) (tNil))) tNil)))) (tSeq (tAsg (tCB (bfK K .tuple) (tCons (tLc (iRng1 (tCons (tVar 2) (tNil))) (gName 4) (tTest (tOp (opK K .eq) (tCall (spS (fun st ds r st' => f_l_next st ds = some (r, st')) K) [] E0 (tCons (tVar 0) (tCons (tC (.int 3)) (tNil)))) (tC (.int 0)))) (tVar 4) [4]) (tNil))) (gName 5)) (tRet (tTupX (tCons (tVar 1) (tCons (tCB (bfK K .tuple) (tCons (tVar 3) (tNil))) (tCons (tVar 5) (tNil))))))))
theorem dnl_machine (K : PySem.W.Frag) (fA cA : Nat → Addr) : denS K E0 c_l_machine_2 = tml_machine K fA cA := rfl
theorem htl_machine (T : Txt K mg fA fD cA cC cP base) (G_l_next : FnOk P w K mg base CX0 1 (fA 24) (fD 24) ["state", "many"] (spS (fun st ds r st' => f_l_next st ds = some (r, st')) K)) (cdv : Value) (A : Around) (outer : List PySem.Env) (s : Shared) (H : Hp) (E : XK) (hr : Room 1 (A.deeper (envOfC "_law_machine" (defScope sl_machine) s.heap.objs.size (fA 27) cdv))) :
    PSs ((cxOf CX0 P w K mg base ["state", "letters", "rooms", "moves", "room", "good", "letter"] "_law_machine" (defScope sl_machine) (fA 27) cdv A outer s H E).nox) (defBody sl_machine) (tml_machine K fA cA) :=
  pss_cons (ps_set (i := 3) scl_machine.nd rfl (by first | exact Or.inl rfl | exact Or.inr rfl) (pe_lst (pa_nil)))
    (pss_cons (ps_for PassesOwn.never rfl (pi_range1 (by rfl) T.n_range (pa_cons (pv 2) (pa_nil))) (pg_name (i := 4) scl_machine.nd rfl (by first | exact Or.inl rfl | exact Or.inr rfl))
    (pss_one (ps_expr (pe_bm PySem.F.plainAttrs_list PySem.F.slot_list_append PySem.F.type_list_append mt_append (pv 3) (pa_cons (pe_callTy cf_tuple (by rfl) T.n_tuple (by decide +kernel) (pa_cons (pe_lc (own := [("letter", 6)]) (g := gName 6) (tt := tYes) rfl scl_machine.nd (pi_u (pv 1)) (blkOk_by (N := ["state", "letters", "rooms", "moves", "room", "good", "letter"]) (sc := defScope sl_machine) (by decide +kernel)) (fun _ _ _ _ _ => pg_name (i := 6) scl_machine.nd rfl (by first | exact Or.inl rfl | exact Or.inr rfl)) (fun _ _ _ _ _ => pts_nil) (fun _ _ _ _ _ => pe_call G_l_next (hr.mono (by decide)) (by rfl) T.g_l_next T.F_l_next.kp T.b_l_next .nil pass0 (pa_cons (pv 0) (pa_cons (pv 2) (pa_nil))))) (pa_nil))) pa_nil)))))
    (pss_cons (ps_set (i := 5) scl_machine.nd rfl (by first | exact Or.inl rfl | exact Or.inr rfl) (pe_callTy cf_tuple (by rfl) T.n_tuple (by decide +kernel) (pa_cons (pe_lc (own := [("room", 4)]) (g := gName 4) (tt := tTest (tOp (opK K .eq) (tCall (spS (fun st ds r st' => f_l_next st ds = some (r, st')) K) [] E0 (tCons (tVar 0) (tCons (tC (.int 3)) (tNil)))) (tC (.int 0)))) rfl scl_machine.nd (pi_range1 (by rfl) T.n_range (pa_cons (pv 2) (pa_nil))) (blkOk_by (N := ["state", "letters", "rooms", "moves", "room", "good", "letter"]) (sc := defScope sl_machine) (by decide +kernel)) (fun _ _ _ _ _ => pg_name (i := 4) scl_machine.nd rfl (by first | exact Or.inl rfl | exact Or.inr rfl)) (fun _ _ _ _ _ => pts_one (pt_cmpR (opr_eq hr.units) (pe_call G_l_next (hr.mono (by decide)) (by rfl) T.g_l_next T.F_l_next.kp T.b_l_next .nil pass0 (pa_cons (pv 0) (pa_cons (pe_int) (pa_nil)))) (pe_int) (nomark _))) (fun _ _ _ _ _ => pv 4)) (pa_nil))))
    (pss_one (ps_ret (pe_tupX (pa_cons (pv 1) (pa_cons (pe_callTy cf_tuple (by rfl) T.n_tuple (by decide +kernel) (pa_cons (pv 3) (pa_nil))) (pa_cons (pv 5) (pa_nil)))))))))
theorem okl_machine (T : Txt K mg fA fD cA cC cP base) : FnOk P w K mg base CX0 2 (fA 27) (fD 27) ["state", "letters", "rooms"] (spS (fun st ds r st' => f_l_machine_2 st ds = some (r, st')) K) :=
  def_S T.F_l_machine scl_machine (fun _ _ _ _ h => len_S h) (t := denS K E0 c_l_machine_2) (fun cdv A outer s H E hr => (dnl_machine K fA cA) ▸ htl_machine T (okl_next T) cdv A outer s H E hr) (fun _ _ _ _ h => run_S (side_of (by rfl)) h)
abbrev sl_log : Stmt := topS 29
theorem scl_log : FnScope ["state", "letters", "many", "k"] ["state", "letters", "many"] (defScope sl_log) := ⟨rfl, rfl, rfl, by decide +kernel, rfl, by decide +kernel, by decide +kernel⟩
def tml_log (K : PySem.W.Frag) (fA cA : Nat → Addr) : TS :=
  tRet (tCB (bfK K .tuple) (tCons (tLc (iRng1 (tCons (tVar 2) (tNil))) (gName 3) (tYes) (tOp (opK K .ix) (tVar 1) (tCall (spS (fun st ds r st' => f_l_next st ds = some (r, st')) K) [] E0 (tCons (tVar 0) (tCons (tCB (bfK K .len) (tCons (tVar 1) (tNil))) (tNil))))) [3]) (tNil)))
theorem dnl_log (K : PySem.W.Frag) (fA cA : Nat → Addr) : denS K E0 c_l_log_3 = tml_log K fA cA := rfl
theorem htl_log (T : Txt K mg fA fD cA cC cP base) (G_l_next : FnOk P w K mg base CX0 1 (fA 24) (fD 24) ["state", "many"] (spS (fun st ds r st' => f_l_next st ds = some (r, st')) K)) (cdv : Value) (A : Around) (outer : List PySem.Env) (s : Shared) (H : Hp) (E : XK) (hr : Room 1 (A.deeper (envOfC "_law_log" (defScope sl_log) s.heap.objs.size (fA 29) cdv))) :
    PSs ((cxOf CX0 P w K mg base ["state", "letters", "many", "k"] "_law_log" (defScope sl_log) (fA 29) cdv A outer s H E).nox) (defBody sl_log) (tml_log K fA cA) :=
  pss_one (ps_ret (pe_callTy cf_tuple (by rfl) T.n_tuple (by decide +kernel) (pa_cons (pe_lc (own := [("k", 3)]) (g := gName 3) (tt := tYes) rfl scl_log.nd (pi_range1 (by rfl) T.n_range (pa_cons (pv 2) (pa_nil))) (blkOk_by (N := ["state", "letters", "many", "k"]) (sc := defScope sl_log) (by decide +kernel)) (fun _ _ _ _ _ => pg_name (i := 3) scl_log.nd rfl (by first | exact Or.inl rfl | exact Or.inr rfl)) (fun _ _ _ _ _ => pts_nil) (fun _ _ _ _ _ => pe_ix ix_seq (pv 1) (pe_call G_l_next (hr.mono (by decide)) (by rfl) T.g_l_next T.F_l_next.kp T.b_l_next .nil pass0 (pa_cons (pv 0) (pa_cons (pe_callB cf_len (by rfl) T.n_len PySem.boot_len (pa_cons (pv 1) (pa_nil))) (pa_nil)))) (fun _ _ => rfl))) (pa_nil))))
theorem okl_log (T : Txt K mg fA fD cA cC cP base) : FnOk P w K mg base CX0 2 (fA 29) (fD 29) ["state", "letters", "many"] (spS (fun st ds r st' => f_l_log_3 st ds = some (r, st')) K) :=
  def_S T.F_l_log scl_log (fun _ _ _ _ h => len_S h) (t := denS K E0 c_l_log_3) (fun cdv A outer s H E hr => (dnl_log K fA cA) ▸ htl_log T (okl_next T) cdv A outer s H E hr) (fun _ _ _ _ h => run_S (side_of (by rfl)) h)
abbrev sl_behind : Stmt := topS 28
theorem scl_behind : FnScope ["machine", "log", "room", "letter", "letters", "moves", "good"] ["machine", "log"] (defScope sl_behind) := ⟨rfl, rfl, rfl, by decide +kernel, rfl, by decide +kernel, by decide +kernel⟩
def tml_behind (K : PySem.W.Frag) (fA cA : Nat → Addr) : TS :=
  tSeq (tAsg (tVar 0) (gTup K 3 (gCons (gName 4) (gCons (gName 5) (gCons (gName 6) (gNil)))))) (tSeq (tAsg (tC (.int 0)) (gName 2)) (tSeq (tFor (uIter K (tVar 1)) (gName 3) (tAsg (tOp (opK K .ix) (tOp (opK K .ix) (tVar 5) (tVar 2)) (tBMX K (rTIx K) (tVar 4) (tCons (tVar 3) (tNil)))) (gName 2))) (tRet (tVar 2))))
theorem dnl_behind (K : PySem.W.Frag) (fA cA : Nat → Addr) : denS K E0 c_l_behind = tml_behind K fA cA := rfl
theorem htl_behind (T : Txt K mg fA fD cA cC cP base)  (cdv : Value) (A : Around) (outer : List PySem.Env) (s : Shared) (H : Hp) (E : XK) (hr : Room 0 (A.deeper (envOfC "_law_behind" (defScope sl_behind) s.heap.objs.size (fA 28) cdv))) :
    PSs ((cxOf CX0 P w K mg base ["machine", "log", "room", "letter", "letters", "moves", "good"] "_law_behind" (defScope sl_behind) (fA 28) cdv A outer s H E).nox) (defBody sl_behind) (tml_behind K fA cA) :=
  pss_cons (ps_asg (pv 0) (pg_tup rfl (pgs_cons (pg_name (i := 4) scl_behind.nd rfl (by first | exact Or.inl rfl | exact Or.inr rfl)) (pgs_cons (pg_name (i := 5) scl_behind.nd rfl (by first | exact Or.inl rfl | exact Or.inr rfl)) (pgs_cons (pg_name (i := 6) scl_behind.nd rfl (by first | exact Or.inl rfl | exact Or.inr rfl)) (pgs_nil))))))
    (pss_cons (ps_set (i := 2) scl_behind.nd rfl (by first | exact Or.inl rfl | exact Or.inr rfl) (pe_int))
    (pss_cons (ps_for PassesOwn.never rfl (pi_u (pv 1)) (pg_name (i := 3) scl_behind.nd rfl (by first | exact Or.inl rfl | exact Or.inr rfl))
    (pss_one (ps_set (i := 2) scl_behind.nd rfl (by first | exact Or.inl rfl | exact Or.inr rfl) (pe_ix ix_seq (pe_ix ix_seq (pv 5) (pv 2) (fun _ _ => rfl)) (pe_bmX PySem.F.plainAttrs_tuple PySem.F.slot_tuple_index PySem.F.type_tuple_index mt_tix (pv 4) (pa_cons (pv 3) (pa_nil))) (fun _ _ => rfl)))))
    (pss_one (ps_ret (pv 2)))))
theorem okl_behind (T : Txt K mg fA fD cA cC cP base) : FnOk P w K mg base CX0 1 (fA 28) (fD 28) ["machine", "log"] (spD (fun ds r => f_l_behind ds = some r) K) :=
  def_D T.F_l_behind scl_behind (fun _ _ h => len_D h) (t := denS K E0 c_l_behind) (fun cdv A outer s H E hr => (dnl_behind K fA cA) ▸ htl_behind T  cdv A outer s H E hr) (fun _ _ h => run_D (side_of (by rfl)) h)
abbrev sroom_behind : Stmt := topS 19
theorem scroom_behind : FnScope ["machine", "log", "room", "letter", "letters", "moves", "_"] ["machine", "log"] (defScope sroom_behind) := ⟨rfl, rfl, rfl, by decide +kernel, rfl, by decide +kernel, by decide +kernel⟩
def tmroom_behind (K : PySem.W.Frag) (fA cA : Nat → Addr) : TS :=
  tSeq (tAsg (tVar 0) (gTup K 3 (gCons (gName 4) (gCons (gName 5) (gCons (gName 6) (gNil)))))) (tSeq (tAsg (tC (.int 0)) (gName 2)) (tSeq (tFor (uIter K (tVar 1)) (gName 3) (tAsg (tOp (opK K .ix) (tOp (opK K .ix) (tVar 5) (tVar 2)) (tBMX K (rTIx K) (tVar 4) (tCons (tVar 3) (tNil)))) (gName 2))) (tRet (tVar 2))))
theorem dnroom_behind (K : PySem.W.Frag) (fA cA : Nat → Addr) : denS K E0 c_room_behind = tmroom_behind K fA cA := rfl
theorem htroom_behind (T : Txt K mg fA fD cA cC cP base)  (cdv : Value) (A : Around) (outer : List PySem.Env) (s : Shared) (H : Hp) (E : XK) (hr : Room 0 (A.deeper (envOfC "room_behind" (defScope sroom_behind) s.heap.objs.size (fA 19) cdv))) :
    PSs ((cxOf CX0 P w K mg base ["machine", "log", "room", "letter", "letters", "moves", "_"] "room_behind" (defScope sroom_behind) (fA 19) cdv A outer s H E).nox) (defBody sroom_behind) (tmroom_behind K fA cA) :=
  pss_cons (ps_asg (pv 0) (pg_tup rfl (pgs_cons (pg_name (i := 4) scroom_behind.nd rfl (by first | exact Or.inl rfl | exact Or.inr rfl)) (pgs_cons (pg_name (i := 5) scroom_behind.nd rfl (by first | exact Or.inl rfl | exact Or.inr rfl)) (pgs_cons (pg_name (i := 6) scroom_behind.nd rfl (by first | exact Or.inl rfl | exact Or.inr rfl)) (pgs_nil))))))
    (pss_cons (ps_set (i := 2) scroom_behind.nd rfl (by first | exact Or.inl rfl | exact Or.inr rfl) (pe_int))
    (pss_cons (ps_for PassesOwn.never rfl (pi_u (pv 1)) (pg_name (i := 3) scroom_behind.nd rfl (by first | exact Or.inl rfl | exact Or.inr rfl))
    (pss_one (ps_set (i := 2) scroom_behind.nd rfl (by first | exact Or.inl rfl | exact Or.inr rfl) (pe_ix ix_seq (pe_ix ix_seq (pv 5) (pv 2) (fun _ _ => rfl)) (pe_bmX PySem.F.plainAttrs_tuple PySem.F.slot_tuple_index PySem.F.type_tuple_index mt_tix (pv 4) (pa_cons (pv 3) (pa_nil))) (fun _ _ => rfl)))))
    (pss_one (ps_ret (pv 2)))))
theorem okroom_behind (T : Txt K mg fA fD cA cC cP base) : FnOk P w K mg base CX0 1 (fA 19) (fD 19) ["machine", "log"] (spD (fun ds r => f_room_behind ds = some r) K) :=
  def_D T.F_room_behind scroom_behind (fun _ _ h => len_D h) (t := denS K E0 c_room_behind) (fun cdv A outer s H E hr => (dnroom_behind K fA cA) ▸ htroom_behind T  cdv A outer s H E hr) (fun _ _ h => run_D (side_of (by rfl)) h)
abbrev slets : Stmt := topS 20
theorem sclets : FnScope ["machine", "log"] ["machine", "log"] (defScope slets) := ⟨rfl, rfl, rfl, by decide +kernel, rfl, by decide +kernel, by decide +kernel⟩
def tmlets (K : PySem.W.Frag) (fA cA : Nat → Addr) : TS :=
  tRet (tOp (opK K .isIn) (tCall (spD (fun ds r => f_room_behind ds = some r) K) [] E0 (tCons (tVar 0) (tCons (tVar 1) (tNil)))) (tOp (opK K .ix) (tVar 0) (tC (.int 2))))
theorem dnlets (K : PySem.W.Frag) (fA cA : Nat → Addr) : denS K E0 c_lets = tmlets K fA cA := rfl
theorem htlets (T : Txt K mg fA fD cA cC cP base) (G_room_behind : FnOk P w K mg base CX0 1 (fA 19) (fD 19) ["machine", "log"] (spD (fun ds r => f_room_behind ds = some r) K)) (cdv : Value) (A : Around) (outer : List PySem.Env) (s : Shared) (H : Hp) (E : XK) (hr : Room 1 (A.deeper (envOfC "lets" (defScope slets) s.heap.objs.size (fA 20) cdv))) :
    PSs ((cxOf CX0 P w K mg base ["machine", "log"] "lets" (defScope slets) (fA 20) cdv A outer s H E).nox) (defBody slets) (tmlets K fA cA) :=
  pss_one (ps_ret (pe_cmpR (opr_in (units65 hr)) (pe_call G_room_behind (hr.mono (by decide)) (by rfl) T.g_room_behind T.F_room_behind.kp T.b_room_behind .nil pass0 (pa_cons (pv 0) (pa_cons (pv 1) (pa_nil)))) (pe_ix ix_seq (pv 0) (pe_int) (fun _ _ => rfl)) rfl))
theorem oklets (T : Txt K mg fA fD cA cC cP base) : FnOk P w K mg base CX0 2 (fA 20) (fD 20) ["machine", "log"] (spD (fun ds r => f_lets ds = some r) K) :=
  def_D T.F_lets sclets (fun _ _ h => len_D h) (t := denS K E0 c_lets) (fun cdv A outer s H E hr => (dnlets K fA cA) ▸ htlets T (okroom_behind T) cdv A outer s H E hr) (fun _ _ h => run_D (side_of (by rfl)) h)
abbrev sis_word : Stmt := topS 13
theorem scis_word : FnScope ["text"] ["text"] (defScope sis_word) := ⟨rfl, rfl, rfl, by decide +kernel, rfl, by decide +kernel, by decide +kernel⟩
def tmis_word (K : PySem.W.Frag) (fA cA : Nat → Addr) : TS :=
  tSeq (tIfS (tOr (tNot (tTest (tChain (opK K .le) (opK K .le) (tC (.int 1)) (tCB (bfK K .len) (tCons (tVar 0) (tNil))) (tC (.int 8))))) (tTest (tInC false ["any", "empty", "none", "and", "or", "not", "again"] (tVar 0)))) (tRet (tC (.bl false))) (tNext)) (tRet (tAllInT "abcdefghijklmnopqrstuvwxyz" (tVar 0)))
theorem dnis_word (K : PySem.W.Frag) (fA cA : Nat → Addr) : denS K E0 c_is_word = tmis_word K fA cA := rfl
theorem htis_word (T : Txt K mg fA fD cA cC cP base)  (A : Around) (outer : List PySem.Env) (s : Shared) (H : Hp) (E : XK) (hr : Room 0 (A.deeper (envOfC "is_word" (defScope sis_word) s.heap.objs.size (fA 13) (.ref (cC 13))))) :
    PSs ((cxOf CX0 P w K mg base ["text"] "is_word" (defScope sis_word) (fA 13) (.ref (cC 13)) A outer s H E).nox) (defBody sis_word) (tmis_word K fA cA) :=
  pss_cons (ps_if ((pw_or (pt_not (pt_chain opr_le opr_le (pe_int) (pe_callB cf_len (by rfl) T.n_len PySem.boot_len (pa_cons (pv 0) (pa_nil))) (pe_cI (by rfl) T.c_MAX_WORD))) (pw_or1 (pt_inC0 (units65 hr) T.c_RESERVED (by rfl) (pv 0) mono_var))).pt) (pss_one (ps_ret (pe_bl))) (pss_nil))
    (pss_one (ps_ret ((pe_allInT T.pt_is_word (pe_allIn (x := "sign") (y := "SMALL_LETTERS") (cs := "abcdefghijklmnopqrstuvwxyz") hr (by rfl) T.n_all T.tb_is_word rfl (by exact ⟨rfl, rfl, by decide +kernel, rfl, rfl, fun y m e => absurd e ((by decide +kernel : ∀ y ∈ _, Prod.snd y ≠ NameKind.free) y m)⟩) (pv 0) (by rfl) T.c_SMALL_LETTERS.choose_spec (fun _ => rfl)) mono_var))))
theorem okis_word (T : Txt K mg fA fD cA cC cP base) : FnOk P w K mg base CX0 1 (fA 13) (fD 13) ["text"] (spD (fun ds r => f_is_word ds = some r) K) :=
  def_DC T.q_is_word scis_word (fun _ _ h => len_D h) (t := denS K E0 c_is_word) (fun A outer s H E hr => (dnis_word K fA cA) ▸ htis_word T A outer s H E hr) (fun _ _ h => run_D (side_of (by rfl)) h)
abbrev scheck_letters : Stmt := topS 14
theorem sccheck_letters : FnScope ["letters", "at", "word"] ["letters"] (defScope scheck_letters) := ⟨rfl, rfl, rfl, by decide +kernel, rfl, by decide +kernel, by decide +kernel⟩
def tmcheck_letters (K : PySem.W.Frag) (fA cA : Nat → Addr) (E : XK) : TS :=
  tSeq (tIfS (tNot (tTest (tChain (opK K .le) (opK K .le) (tC (.int 1)) (tCB (bfK K .len) (tCons (tVar 0) (tNil))) (tC (.int 4))))) (tRaiseO (cA 2) E) (tNext)) (tFor (iEnT K (tCons (tVar 0) tNil)) (gTup K 2 (gCons (gName 1) (gCons (gName 2) (gNil)))) (tSeq (tIfS (tNot (tB (tCall (spD (fun ds r => f_is_word ds = some r) K) [] E0 (tCons (tVar 2) (tNil))))) (tRaiseO (cA 2) E) (tNext)) (tIfS (tTest (tOp (opK K .isIn) (tVar 2) (tSl (rSlU K) (tVar 0) (tNoPart) (tPart (tVar 1))))) (tRaiseO (cA 2) E) (tNext))))
theorem dncheck_letters (K : PySem.W.Frag) (fA cA : Nat → Addr) (E : XK) : denS K E (c_check_letters (cl0 fA cA)) = tmcheck_letters K fA cA E := rfl
theorem htcheck_letters (T : Txt K mg fA fD cA cC cP base) (G_is_word : FnOk P w K mg base CX0 1 (fA 13) (fD 13) ["text"] (spD (fun ds r => f_is_word ds = some r) K)) (cdv : Value) (A : Around) (outer : List PySem.Env) (s : Shared) (H : Hp) (E : XK) (hr : Room 1 (A.deeper (envOfC "check_letters" (defScope scheck_letters) s.heap.objs.size (fA 14) cdv))) :
    PSs (cxOf (L2.CX P w) P w K mg base ["letters", "at", "word"] "check_letters" (defScope scheck_letters) (fA 14) cdv A outer s H E) (defBody scheck_letters) (tmcheck_letters K fA cA E) :=
  pss_cons (ps_if (pt_not (pt_chain opr_le opr_le (pe_int) (pe_callB cf_len (by rfl) T.n_len PySem.boot_len (pa_cons (pv 0) (pa_nil))) (pe_cI (by rfl) T.c_MAX_LETTERS))) (pss_one (ps_raise rfl (takes_of rfl rfl rfl rfl) (pmk_own PySem.F.excBase_ValueError T.x_NotAllowed T.g_NotAllowed T.k_NotAllowed (raises_own T.s_NotAllowed T.t_NotAllowed) (by rfl)))) (pss_nil))
    (pss_one (ps_for (passes_of rfl) rfl (pi_enumT (by rfl) T.n_enumerate (pa_cons (pv 0) pa_nil)) (pg_tup rfl (pgs_cons (pg_name (i := 1) sccheck_letters.nd rfl (by first | exact Or.inl rfl | exact Or.inr rfl)) (pgs_cons (pg_name (i := 2) sccheck_letters.nd rfl (by first | exact Or.inl rfl | exact Or.inr rfl)) (pgs_nil))))
    (pss_cons (ps_if (pt_not (pt_val (pe_call G_is_word (hr.mono (by decide)) (by rfl) T.g_is_word T.F_is_word.kp T.b_is_word .nil pass0 (pa_cons (pv 2) (pa_nil))))) (pss_one (ps_raise rfl (takes_of rfl rfl rfl rfl) (pmk_own PySem.F.excBase_ValueError T.x_NotAllowed T.g_NotAllowed T.k_NotAllowed (raises_own T.s_NotAllowed T.t_NotAllowed) (by rfl)))) (pss_nil))
    (pss_one (ps_if (pt_cmpR (opr_in (units65 hr)) (pv 2) (pe_slice sl_u (pv 0) (po_none) (po_some (pv 1))) rfl) (pss_one (ps_raise rfl (takes_of rfl rfl rfl rfl) (pmk_own PySem.F.excBase_ValueError T.x_NotAllowed T.g_NotAllowed T.k_NotAllowed (raises_own T.s_NotAllowed T.t_NotAllowed) (by rfl)))) (pss_nil))))))
theorem okcheck_letters (T : Txt K mg fA fD cA cC cP base) : FnOk P w K mg base (L2.CX P w) 2 (fA 14) (fD 14) ["letters"] (spX (fun ds r => (f_check_letters (cl0 fA cA)) ds = some r) K) :=
  def_X T.F_check_letters sccheck_letters (fun _ _ h => len_X h) (t := fun E => denS K E (c_check_letters (cl0 fA cA))) (fun cdv A outer s H E hr => (dncheck_letters K fA cA E) ▸ htcheck_letters T (okis_word T) cdv A outer s H E hr) (fun _ _ E h => run_X E (side_of (by rfl)) h)
abbrev scheck_rooms : Stmt := topS 18
theorem sccheck_rooms : FnScope ["rooms", "many", "room"] ["rooms", "many"] (defScope scheck_rooms) := ⟨rfl, rfl, rfl, by decide +kernel, rfl, by decide +kernel, by decide +kernel⟩
def tmcheck_rooms (K : PySem.W.Frag) (fA cA : Nat → Addr) (E : XK) : TS :=
  tFor (uIter K (tVar 0)) (gName 2) (tIfS (tNot (tTest (tChain (opK K .le) (opK K .lt) (tC (.int 0)) (tVar 2) (tVar 1)))) (tRaiseO (cA 2) E) (tNext))
theorem dncheck_rooms (K : PySem.W.Frag) (fA cA : Nat → Addr) (E : XK) : denS K E (c_check_rooms (cl0 fA cA)) = tmcheck_rooms K fA cA E := rfl
theorem htcheck_rooms (T : Txt K mg fA fD cA cC cP base)  (cdv : Value) (A : Around) (outer : List PySem.Env) (s : Shared) (H : Hp) (E : XK) (hr : Room 0 (A.deeper (envOfC "_check_rooms" (defScope scheck_rooms) s.heap.objs.size (fA 18) cdv))) :
    PSs (cxOf (L2.CX P w) P w K mg base ["rooms", "many", "room"] "_check_rooms" (defScope scheck_rooms) (fA 18) cdv A outer s H E) (defBody scheck_rooms) (tmcheck_rooms K fA cA E) :=
  pss_one (ps_for (passes_of rfl) rfl (pi_u (pv 0)) (pg_name (i := 2) sccheck_rooms.nd rfl (by first | exact Or.inl rfl | exact Or.inr rfl))
    (pss_one (ps_if (pt_not (pt_chain opr_le (opr_lt hr.units) (pe_int) (pv 2) (pv 1))) (pss_one (ps_raise rfl (takes_of rfl rfl rfl rfl) (pmk_own PySem.F.excBase_ValueError T.x_NotAllowed T.g_NotAllowed T.k_NotAllowed (raises_own T.s_NotAllowed T.t_NotAllowed) (by rfl)))) (pss_nil))))
theorem okcheck_rooms (T : Txt K mg fA fD cA cC cP base) : FnOk P w K mg base (L2.CX P w) 1 (fA 18) (fD 18) ["rooms", "many"] (spX (fun ds r => (f_check_rooms (cl0 fA cA)) ds = some r) K) :=
  def_X T.F_check_rooms sccheck_rooms (fun _ _ h => len_X h) (t := fun E => denS K E (c_check_rooms (cl0 fA cA))) (fun cdv A outer s H E hr => (dncheck_rooms K fA cA E) ▸ htcheck_rooms T  cdv A outer s H E hr) (fun _ _ E h => run_X E (side_of (by rfl)) h)
abbrev scheck_machine : Stmt := topS 17
theorem sccheck_machine : FnScope ["machine", "row", "at", "letters", "moves", "granted"] ["machine"] (defScope scheck_machine) := ⟨rfl, rfl, rfl, by decide +kernel, rfl, by decide +kernel, by decide +kernel⟩
def tmcheck_machine (K : PySem.W.Frag) (fA cA : Nat → Addr) (E : XK) : TS :=
  tSeq (tAsg (tVar 0) (gTup K 3 (gCons (gName 3) (gCons (gName 4) (gCons (gName 5) (gNil)))))) (tSeq (tDrop (tCall (spX (fun ds r => (f_check_letters (cl0 fA cA)) ds = some r) K) [] E (tCons (tVar 3) (tNil)))) (tSeq (tIfS (tNot (tTest (tChain (opK K .le) (opK K .le) (tC (.int 1)) (tCB (bfK K .len) (tCons (tVar 4) (tNil))) (tC (.int 8))))) (tRaiseO (cA 2) E) (tNext)) (tSeq (tFor (uIter K (tVar 4)) (gName 1) (tSeq (tIfS (tTest (tOp (opK K .ne) (tCB (bfK K .len) (tCons (tVar 1) (tNil))) (tCB (bfK K .len) (tCons (tVar 3) (tNil))))) (tRaiseO (cA 2) E) (tNext)) (tDrop (tCall (spX (fun ds r => (f_check_rooms (cl0 fA cA)) ds = some r) K) [] E (tCons (tVar 1) (tCons (tCB (bfK K .len) (tCons (tVar 4) (tNil))) (tNil))))))) (tSeq (tDrop (tCall (spX (fun ds r => (f_check_rooms (cl0 fA cA)) ds = some r) K) [] E (tCons (tVar 5) (tCons (tCB (bfK K .len) (tCons (tVar 4) (tNil))) (tNil))))) (tFor (iRng2 (tCons (tC (.int 1)) (tCons (tCB (bfK K .len) (tCons (tVar 5) (tNil))) (tNil)))) (gName 2) (tIfS (tTest (tOp (opK K .ge) (tOp (opK K .ix) (tVar 5) (tOp (opK K .sub) (tVar 2) (tC (.int 1)))) (tOp (opK K .ix) (tVar 5) (tVar 2)))) (tRaiseO (cA 2) E) (tNext)))))))
theorem dncheck_machine (K : PySem.W.Frag) (fA cA : Nat → Addr) (E : XK) : denS K E (c_check_machine (cl0 fA cA)) = tmcheck_machine K fA cA E := rfl
theorem htcheck_machine (T : Txt K mg fA fD cA cC cP base) (G_check_rooms : FnOk P w K mg base (L2.CX P w) 1 (fA 18) (fD 18) ["rooms", "many"] (spX (fun ds r => (f_check_rooms (cl0 fA cA)) ds = some r) K)) (G_check_letters : FnOk P w K mg base (L2.CX P w) 2 (fA 14) (fD 14) ["letters"] (spX (fun ds r => (f_check_letters (cl0 fA cA)) ds = some r) K)) (cdv : Value) (A : Around) (outer : List PySem.Env) (s : Shared) (H : Hp) (E : XK) (hr : Room 2 (A.deeper (envOfC "check_machine" (defScope scheck_machine) s.heap.objs.size (fA 17) cdv))) :
    PSs (cxOf (L2.CX P w) P w K mg base ["machine", "row", "at", "letters", "moves", "granted"] "check_machine" (defScope scheck_machine) (fA 17) cdv A outer s H E) (defBody scheck_machine) (tmcheck_machine K fA cA E) :=
  pss_cons (ps_asg (pv 0) (pg_tup rfl (pgs_cons (pg_name (i := 3) sccheck_machine.nd rfl (by first | exact Or.inl rfl | exact Or.inr rfl)) (pgs_cons (pg_name (i := 4) sccheck_machine.nd rfl (by first | exact Or.inl rfl | exact Or.inr rfl)) (pgs_cons (pg_name (i := 5) sccheck_machine.nd rfl (by first | exact Or.inl rfl | exact Or.inr rfl)) (pgs_nil))))))
    (pss_cons (ps_expr (pe_call G_check_letters (hr.mono (by decide)) (by rfl) T.g_check_letters T.F_check_letters.kp T.b_check_letters .nil (passes_call (takes_of rfl rfl rfl rfl) (fun _ _ _ _ h => h)) (pa_cons (pv 3) (pa_nil))))
    (pss_cons (ps_if (pt_not (pt_chain opr_le opr_le (pe_int) (pe_callB cf_len (by rfl) T.n_len PySem.boot_len (pa_cons (pv 4) (pa_nil))) (pe_cI (by rfl) T.c_MAX_ROOMS))) (pss_one (ps_raise rfl (takes_of rfl rfl rfl rfl) (pmk_own PySem.F.excBase_ValueError T.x_NotAllowed T.g_NotAllowed T.k_NotAllowed (raises_own T.s_NotAllowed T.t_NotAllowed) (by rfl)))) (pss_nil))
    (pss_cons (ps_for (passes_of rfl) rfl (pi_u (pv 4)) (pg_name (i := 1) sccheck_machine.nd rfl (by first | exact Or.inl rfl | exact Or.inr rfl))
    (pss_cons (ps_if (pt_cmpR (opr_ne hr.units) (pe_callB cf_len (by rfl) T.n_len PySem.boot_len (pa_cons (pv 1) (pa_nil))) (pe_callB cf_len (by rfl) T.n_len PySem.boot_len (pa_cons (pv 3) (pa_nil))) (nomark _)) (pss_one (ps_raise rfl (takes_of rfl rfl rfl rfl) (pmk_own PySem.F.excBase_ValueError T.x_NotAllowed T.g_NotAllowed T.k_NotAllowed (raises_own T.s_NotAllowed T.t_NotAllowed) (by rfl)))) (pss_nil))
    (pss_one (ps_expr (pe_call G_check_rooms (hr.mono (by decide)) (by rfl) T.g_check_rooms T.F_check_rooms.kp T.b_check_rooms .nil (passes_call (takes_of rfl rfl rfl rfl) (fun _ _ _ _ h => h)) (pa_cons (pv 1) (pa_cons (pe_callB cf_len (by rfl) T.n_len PySem.boot_len (pa_cons (pv 4) (pa_nil))) (pa_nil))))))))
    (pss_cons (ps_expr (pe_call G_check_rooms (hr.mono (by decide)) (by rfl) T.g_check_rooms T.F_check_rooms.kp T.b_check_rooms .nil (passes_call (takes_of rfl rfl rfl rfl) (fun _ _ _ _ h => h)) (pa_cons (pv 5) (pa_cons (pe_callB cf_len (by rfl) T.n_len PySem.boot_len (pa_cons (pv 4) (pa_nil))) (pa_nil)))))
    (pss_one (ps_for (passes_of rfl) rfl (pi_range2 (by rfl) T.n_range (pa_cons (pe_int) (pa_cons (pe_callB cf_len (by rfl) T.n_len PySem.boot_len (pa_cons (pv 5) (pa_nil))) (pa_nil)))) (pg_name (i := 2) sccheck_machine.nd rfl (by first | exact Or.inl rfl | exact Or.inr rfl))
    (pss_one (ps_if (pt_cmpR opr_ge (pe_ix ix_seq (pv 5) (pe_op opr_sub (pv 2) (pe_int)) (fun _ _ => rfl)) (pe_ix ix_seq (pv 5) (pv 2) (fun _ _ => rfl)) (nomark _)) (pss_one (ps_raise rfl (takes_of rfl rfl rfl rfl) (pmk_own PySem.F.excBase_ValueError T.x_NotAllowed T.g_NotAllowed T.k_NotAllowed (raises_own T.s_NotAllowed T.t_NotAllowed) (by rfl)))) (pss_nil)))))))))
theorem okcheck_machine (T : Txt K mg fA fD cA cC cP base) : FnOk P w K mg base (L2.CX P w) 3 (fA 17) (fD 17) ["machine"] (spX (fun ds r => (f_check_machine (cl0 fA cA)) ds = some r) K) :=
  def_X T.F_check_machine sccheck_machine (fun _ _ h => len_X h) (t := fun E => denS K E (c_check_machine (cl0 fA cA))) (fun cdv A outer s H E hr => (dncheck_machine K fA cA E) ▸ htcheck_machine T (okcheck_rooms T) (okcheck_letters T) cdv A outer s H E hr) (fun _ _ E h => run_X E (side_of (by rfl)) h)
abbrev sl_refused : Stmt := topS 30
theorem scl_refused : FnScope ["machine", "e"] ["machine"] (defScope sl_refused) := ⟨rfl, rfl, rfl, by decide +kernel, rfl, by decide +kernel, by decide +kernel⟩
def tml_refused (K : PySem.W.Frag) (fA cA : Nat → Addr) : TS :=
  tSeq ((fun Dn σ H => (fun W : WX => tDrop (tCallS (spX (fun ds r => (f_check_machine (cl0 fA cA)) ds = some r) K) (WE W) (tCons (tVar 0) (tNil)))) (wNmd K 1 (fun _ _ _ _ => False) Dn [((Value.ref (cA 2), fun a cls d => tRet (tAndV (tCB (rIsX K a cls d) (tCons (tVar 1) (tCons (tC (.ref (cA 1))) tNil))) (tNotV (tCB (rIsX K a cls d) (tCons (tVar 1) (tCons (tTup (tRefs [cA 3, cA 4, cA 5, cA 6, cA 7])) tNil)))))) : Value × Su)]) Dn σ H)) (tRet (tC (.bl false)))
theorem dnl_refused (K : PySem.W.Frag) (fA cA : Nat → Addr) : denS K E0 (c_l_refused (cl0 fA cA)) = tml_refused K fA cA := rfl
theorem htl_refused (T : Txt K mg fA fD cA cC cP base) (G_check_machine : FnOk P w K mg base (L2.CX P w) 3 (fA 17) (fD 17) ["machine"] (spX (fun ds r => (f_check_machine (cl0 fA cA)) ds = some r) K)) (cdv : Value) (A : Around) (outer : List PySem.Env) (s : Shared) (H : Hp) (E : XK) (hr : Room 3 (A.deeper (envOfC "_law_refused" (defScope sl_refused) s.heap.objs.size (fA 30) cdv))) :
    PSs ((cxOf CX0 P w K mg base ["machine", "e"] "_law_refused" (defScope sl_refused) (fA 30) cdv A outer s H E).nox) (defBody sl_refused) (tml_refused K fA cA) :=
  pss_cons (ps_tryN (i := 1) (tb := fun W => tDrop (tCallS (spX (fun ds r => (f_check_machine (cl0 fA cA)) ds = some r) K) (WE W) (tCons (tVar 0) (tNil)))) (W0 := fun _ _ _ _ => False) (l := [((Value.ref (cA 2), fun a cls d => tRet (tAndV (tCB (rIsX K a cls d) (tCons (tVar 1) (tCons (tC (.ref (cA 1))) tNil))) (tNotV (tCB (rIsX K a cls d) (tCons (tVar 1) (tCons (tTup (tRefs [cA 3, cA 4, cA 5, cA 6, cA 7])) tNil)))))) : Value × Su)]) rfl rfl scl_refused.nd rfl rfl takes0
      (fun W pn xe tk _ => pss_one (ps_expr (pe_callS G_check_machine (hr.mono (by decide)) (by rfl) T.g_check_machine T.F_check_machine.kp T.b_check_machine (fun σ => passAt tk σ) (by exact (pa_cons (pv 0) (pa_nil))))))
      (Clauses.cons (c := .ref (cA 2)) (f := fun a cls d => tRet (tAndV (tCB (rIsX K a cls d) (tCons (tVar 1) (tCons (tC (.ref (cA 1))) tNil))) (tNotV (tCB (rIsX K a cls d) (tCons (tVar 1) (tCons (tTup (tRefs [cA 3, cA 4, cA 5, cA 6, cA 7])) tNil)))))) ⟨rfl, by decide, Or.inl T.g_NotAllowed⟩ (fun a oe cls d pn hz hf => pss_one (ps_ret (by exact (pe_and (pe_callB (cr_isX hz hf) (by rfl) T.n_isinstance (by decide +kernel) (pa_cons (pv 1) (pa_cons (pe_glob (by rfl) T.g_ScarpError rfl) pa_nil))) (pe_one (pe_not (pe_callB (cr_isX hz hf) (by rfl) T.n_isinstance (by decide +kernel) (pa_cons (pv 1) (pa_cons (pe_tup (pa_cons (pe_glob (by rfl) T.g_TooLarge rfl) (pa_cons (pe_glob (by rfl) T.g_Missing rfl) (pa_cons (pe_glob (by rfl) T.g_BadPaper rfl) (pa_cons (pe_glob (by rfl) T.g_BadForm rfl) (pa_cons (pe_glob (by rfl) T.g_Broken rfl) (pa_nil))))))) pa_nil))))))))) (Clauses.nil)))
    (pss_one (ps_ret (pe_bl)))
theorem okl_refused (T : Txt K mg fA fD cA cC cP base) : FnOk P w K mg base CX0 4 (fA 30) (fD 30) ["machine"] (spD (fun ds r => (f_l_refused (cl0 fA cA)) ds = some r) K) :=
  def_D T.F_l_refused scl_refused (fun _ _ h => len_D h) (t := denS K E0 (c_l_refused (cl0 fA cA))) (fun cdv A outer s H E hr => (dnl_refused K fA cA) ▸ htl_refused T (okcheck_machine T) cdv A outer s H E hr) (fun _ _ h => run_D (by exact ⟨⟨T.kn, by simp [hxN, hxL, tzN, tzL]⟩, (side_of (by rfl))⟩) h)
abbrev sl_spoilt : Stmt := topS 31
theorem scl_spoilt : FnScope ["state", "machine", "at", "k", "row", "bad", "rows", "other", "found", "letters", "moves", "good", "one"] ["state", "machine"] (defScope sl_spoilt) := ⟨rfl, rfl, rfl, by decide +kernel, rfl, by decide +kernel, by decide +kernel⟩
def tml_spoilt (K : PySem.W.Frag) (fA cA : Nat → Addr) : TS :=
  tSeq (tAsg (tVar 1) (gTup K 3 (gCons (gName 9) (gCons (gName 10) (gCons (gName 11) (gNil)))))) (tSeq (tAsg (tCall (spS (fun st ds r st' => f_l_next st ds = some (r, st')) K) [] E0 (tCons (tVar 0) (tCons (tCB (bfK K .len) (tCons (tVar 10) (tNil))) (tNil)))) (gName 2)) (tSeq (tAsg (tCall (spS (fun st ds r st' => f_l_next st ds = some (r, st')) K) [] E0 (tCons (tVar 0) (tCons (tCB (bfK K .len) (tCons (tVar 9) (tNil))) (tNil)))) (gName 3)) (tSeq (tAsg (tOp (opK K .ix) (tVar 10) (tVar 2)) (gName 4)) (tSeq (tAsg (tLst (tCons (tOp (opK K .add) (tOp (opK K .add) (tSl (rSlU K) (tVar 4) (tNoPart) (tPart (tVar 3))) (tTupX (tCons (tCB (bfK K .len) (tCons (tVar 10) (tNil))) (tNil)))) (tSl (rSlU K) (tVar 4) (tPart (tOp (opK K .add) (tVar 3) (tC (.int 1)))) (tNoPart))) (tCons (tOp (opK K .add) (tOp (opK K .add) (tSl (rSlU K) (tVar 4) (tNoPart) (tPart (tVar 3))) (tTupX (tCons (tUn (rU fun i => .int (-i)) (tC (.int 1))) (tNil)))) (tSl (rSlU K) (tVar 4) (tPart (tOp (opK K .add) (tVar 3) (tC (.int 1)))) (tNoPart))) (tCons (tOp (opK K .add) (tVar 4) (tTupX (tCons (tC (.int 0)) (tNil)))) (tCons (tOp (opK K .add) (tSl (rSlU K) (tVar 4) (tNoPart) (tPart (tVar 3))) (tSl (rSlU K) (tVar 4) (tPart (tOp (opK K .add) (tVar 3) (tC (.int 1)))) (tNoPart))) (tNil)))))) (gName 5)) (tSeq (tAsg (tLst (tCons (tTupX (tCons (tVar 9) (tCons (tTupX (tNil)) (tCons (tTupX (tNil)) (tNil))))) (tCons (tTupX (tCons (tVar 9) (tCons (tOp (opK K .add) (tVar 10) (tOp (opK K .mul) (tSl (rSlU K) (tVar 10) (tNoPart) (tPart (tC (.int 1)))) (tOp (opK K .sub) (tC (.int 9)) (tCB (bfK K .len) (tCons (tVar 10) (tNil)))))) (tCons (tVar 11) (tNil))))) (tNil)))) (gName 6)) (tSeq (tAsg (tOp (opK K .add) (tVar 6) (tLc (uIter K (tVar 5)) (gName 12) (tYes) (tTupX (tCons (tVar 9) (tCons (tOp (opK K .add) (tOp (opK K .add) (tSl (rSlU K) (tVar 10) (tNoPart) (tPart (tVar 2))) (tTupX (tCons (tVar 12) (tNil)))) (tSl (rSlU K) (tVar 10) (tPart (tOp (opK K .add) (tVar 2) (tC (.int 1)))) (tNoPart))) (tCons (tVar 11) (tNil))))) [12])) (gName 6)) (tSeq (tFor (uIter K (tLst (tCons (tTupX (tCons (tCB (bfK K .len) (tCons (tVar 10) (tNil))) (tNil))) (tCons (tTupX (tCons (tUn (rU fun i => .int (-i)) (tC (.int 1))) (tNil))) (tCons (tTupX (tCons (tC (.int 0)) (tCons (tC (.int 0)) (tNil)))) (tCons (tOp (opK K .add) (tVar 11) (tTupX (tCons (tCB (bfK K .len) (tCons (tVar 10) (tNil))) (tNil)))) (tCons (tTupX (tCons (tVar 2) (tCons (tVar 2) (tNil)))) (tCons (tTupX (tCons (tC (.int 1)) (tCons (tC (.int 0)) (tNil)))) (tCons (tOp (opK K .add) (tRevT K (tVar 11)) (tTupX (tCons (tC (.int 0)) (tNil)))) (tNil)))))))))) (gName 7) (tDrop (tBM K "list" rAppend (tVar 6) (tCons (tTupX (tCons (tVar 9) (tCons (tVar 10) (tCons (tVar 7) (tNil))))) tNil)))) (tSeq (tAsg (tOp (opK K .add) (tVar 6) (tLst (tCons (tTupX (tCons (tTupX (tNil)) (tCons (tVar 10) (tCons (tVar 11) (tNil))))) (tCons (tTupX (tCons (tOp (opK K .add) (tOp (opK K .add) (tSl (rSlU K) (tVar 9) (tNoPart) (tPart (tVar 3))) (tTupX (tCons (tC (.str "none")) (tNil)))) (tSl (rSlU K) (tVar 9) (tPart (tOp (opK K .add) (tVar 3) (tC (.int 1)))) (tNoPart))) (tCons (tVar 10) (tCons (tVar 11) (tNil))))) (tCons (tTupX (tCons (tOp (opK K .add) (tVar 9) (tSl (rSlU K) (tVar 9) (tNoPart) (tPart (tC (.int 1))))) (tCons (tVar 10) (tCons (tVar 11) (tNil))))) (tNil)))))) (gName 6)) (tSeq (tAsg (tOp (opK K .ix) (tVar 6) (tCall (spS (fun st ds r st' => f_l_next st ds = some (r, st')) K) [] E0 (tCons (tVar 0) (tCons (tCB (bfK K .len) (tCons (tVar 6) (tNil))) (tNil))))) (gName 8)) (tSeq (tIfS (tOr (tAnd (tTest (tOp (opK K .eq) (tOp (opK K .ix) (tVar 8) (tC (.int 2))) (tTupX (tCons (tC (.int 1)) (tCons (tC (.int 0)) (tNil)))))) (tTest (tOp (opK K .lt) (tCB (bfK K .len) (tCons (tVar 10) (tNil))) (tC (.int 2))))) (tAnd (tTest (tOp (opK K .eq) (tOp (opK K .ix) (tVar 8) (tC (.int 2))) (tTupX (tCons (tC (.int 0)) (tNil))))) (tTest (tOp (opK K .eq) (tOp (opK K .ix) (tVar 8) (tC (.int 2))) (tOp (opK K .add) (tRevT K (tVar 11)) (tTupX (tCons (tC (.int 0)) (tNil)))))))) (tRet (tTupX (tCons (tVar 9) (tCons (tTupX (tNil)) (tCons (tTupX (tNil)) (tNil)))))) (tNext)) (tRet (tVar 8))))))))))))
theorem dnl_spoilt (K : PySem.W.Frag) (fA cA : Nat → Addr) : denS K E0 c_l_spoilt = tml_spoilt K fA cA := rfl
theorem htl_spoilt (T : Txt K mg fA fD cA cC cP base) (G_l_next : FnOk P w K mg base CX0 1 (fA 24) (fD 24) ["state", "many"] (spS (fun st ds r st' => f_l_next st ds = some (r, st')) K)) (cdv : Value) (A : Around) (outer : List PySem.Env) (s : Shared) (H : Hp) (E : XK) (hr : Room 1 (A.deeper (envOfC "_law_spoilt" (defScope sl_spoilt) s.heap.objs.size (fA 31) cdv))) :
    PSs ((cxOf CX0 P w K mg base ["state", "machine", "at", "k", "row", "bad", "rows", "other", "found", "letters", "moves", "good", "one"] "_law_spoilt" (defScope sl_spoilt) (fA 31) cdv A outer s H E).nox) (defBody sl_spoilt) (tml_spoilt K fA cA) :=
  pss_cons (ps_asg (pv 1) (pg_tup rfl (pgs_cons (pg_name (i := 9) scl_spoilt.nd rfl (by first | exact Or.inl rfl | exact Or.inr rfl)) (pgs_cons (pg_name (i := 10) scl_spoilt.nd rfl (by first | exact Or.inl rfl | exact Or.inr rfl)) (pgs_cons (pg_name (i := 11) scl_spoilt.nd rfl (by first | exact Or.inl rfl | exact Or.inr rfl)) (pgs_nil))))))
    (pss_cons (ps_set (i := 2) scl_spoilt.nd rfl (by first | exact Or.inl rfl | exact Or.inr rfl) (pe_call G_l_next (hr.mono (by decide)) (by rfl) T.g_l_next T.F_l_next.kp T.b_l_next .nil pass0 (pa_cons (pv 0) (pa_cons (pe_callB cf_len (by rfl) T.n_len PySem.boot_len (pa_cons (pv 10) (pa_nil))) (pa_nil)))))
    (pss_cons (ps_set (i := 3) scl_spoilt.nd rfl (by first | exact Or.inl rfl | exact Or.inr rfl) (pe_call G_l_next (hr.mono (by decide)) (by rfl) T.g_l_next T.F_l_next.kp T.b_l_next .nil pass0 (pa_cons (pv 0) (pa_cons (pe_callB cf_len (by rfl) T.n_len PySem.boot_len (pa_cons (pv 9) (pa_nil))) (pa_nil)))))
    (pss_cons (ps_set (i := 4) scl_spoilt.nd rfl (by first | exact Or.inl rfl | exact Or.inr rfl) (pe_ix ix_seq (pv 10) (pv 2) (fun _ _ => rfl)))
    (pss_cons (ps_set (i := 5) scl_spoilt.nd rfl (by first | exact Or.inl rfl | exact Or.inr rfl) (pe_lst (pa_cons (pe_op opr_add (pe_op opr_add (pe_slice sl_u (pv 4) (po_none) (po_some (pv 3))) (pe_tupX (pa_cons (pe_callB cf_len (by rfl) T.n_len PySem.boot_len (pa_cons (pv 10) (pa_nil))) (pa_nil)))) (pe_slice sl_u (pv 4) (po_some (pe_op opr_add (pv 3) (pe_int))) (po_none))) (pa_cons (pe_op opr_add (pe_op opr_add (pe_slice sl_u (pv 4) (po_none) (po_some (pv 3))) (pe_tupX (pa_cons (pe_un un_neg (pe_int)) (pa_nil)))) (pe_slice sl_u (pv 4) (po_some (pe_op opr_add (pv 3) (pe_int))) (po_none))) (pa_cons (pe_op opr_add (pv 4) (pe_tupX (pa_cons (pe_int) (pa_nil)))) (pa_cons (pe_op opr_add (pe_slice sl_u (pv 4) (po_none) (po_some (pv 3))) (pe_slice sl_u (pv 4) (po_some (pe_op opr_add (pv 3) (pe_int))) (po_none))) (pa_nil)))))))
    (pss_cons (ps_set (i := 6) scl_spoilt.nd rfl (by first | exact Or.inl rfl | exact Or.inr rfl) (pe_lst (pa_cons (pe_tupX (pa_cons (pv 9) (pa_cons (pe_tupX (pa_nil)) (pa_cons (pe_tupX (pa_nil)) (pa_nil))))) (pa_cons (pe_tupX (pa_cons (pv 9) (pa_cons (pe_op opr_add (pv 10) (pe_op opr_mul (pe_slice sl_u (pv 10) (po_none) (po_some (pe_int))) (pe_op opr_sub (pe_int) (pe_callB cf_len (by rfl) T.n_len PySem.boot_len (pa_cons (pv 10) (pa_nil)))))) (pa_cons (pv 11) (pa_nil))))) (pa_nil)))))
    (pss_cons (ps_set (i := 6) scl_spoilt.nd rfl (by first | exact Or.inl rfl | exact Or.inr rfl) (pe_op opr_add (pv 6) (pe_lc (own := [("one", 12)]) (g := gName 12) (tt := tYes) rfl scl_spoilt.nd (pi_u (pv 5)) (blkOk_by (N := ["state", "machine", "at", "k", "row", "bad", "rows", "other", "found", "letters", "moves", "good", "one"]) (sc := defScope sl_spoilt) (by decide +kernel)) (fun _ _ _ _ _ => pg_name (i := 12) scl_spoilt.nd rfl (by first | exact Or.inl rfl | exact Or.inr rfl)) (fun _ _ _ _ _ => pts_nil) (fun _ _ _ _ _ => pe_tupX (pa_cons (pv 9) (pa_cons (pe_op opr_add (pe_op opr_add (pe_slice sl_u (pv 10) (po_none) (po_some (pv 2))) (pe_tupX (pa_cons (pv 12) (pa_nil)))) (pe_slice sl_u (pv 10) (po_some (pe_op opr_add (pv 2) (pe_int))) (po_none))) (pa_cons (pv 11) (pa_nil))))))))
    (pss_cons (ps_for PassesOwn.never rfl (pi_u (pe_lst (pa_cons (pe_tupX (pa_cons (pe_callB cf_len (by rfl) T.n_len PySem.boot_len (pa_cons (pv 10) (pa_nil))) (pa_nil))) (pa_cons (pe_tupX (pa_cons (pe_un un_neg (pe_int)) (pa_nil))) (pa_cons (pe_tupX (pa_cons (pe_int) (pa_cons (pe_int) (pa_nil)))) (pa_cons (pe_op opr_add (pv 11) (pe_tupX (pa_cons (pe_callB cf_len (by rfl) T.n_len PySem.boot_len (pa_cons (pv 10) (pa_nil))) (pa_nil)))) (pa_cons (pe_tupX (pa_cons (pv 2) (pa_cons (pv 2) (pa_nil)))) (pa_cons (pe_tupX (pa_cons (pe_int) (pa_cons (pe_int) (pa_nil)))) (pa_cons (pe_op opr_add (pe_revT (pv 11)) (pe_tupX (pa_cons (pe_int) (pa_nil)))) (pa_nil)))))))))) (pg_name (i := 7) scl_spoilt.nd rfl (by first | exact Or.inl rfl | exact Or.inr rfl))
    (pss_one (ps_expr (pe_bm PySem.F.plainAttrs_list PySem.F.slot_list_append PySem.F.type_list_append mt_append (pv 6) (pa_cons (pe_tupX (pa_cons (pv 9) (pa_cons (pv 10) (pa_cons (pv 7) (pa_nil))))) pa_nil)))))
    (pss_cons (ps_set (i := 6) scl_spoilt.nd rfl (by first | exact Or.inl rfl | exact Or.inr rfl) (pe_op opr_add (pv 6) (pe_lst (pa_cons (pe_tupX (pa_cons (pe_tupX (pa_nil)) (pa_cons (pv 10) (pa_cons (pv 11) (pa_nil))))) (pa_cons (pe_tupX (pa_cons (pe_op opr_add (pe_op opr_add (pe_slice sl_u (pv 9) (po_none) (po_some (pv 3))) (pe_tupX (pa_cons (pe_str) (pa_nil)))) (pe_slice sl_u (pv 9) (po_some (pe_op opr_add (pv 3) (pe_int))) (po_none))) (pa_cons (pv 10) (pa_cons (pv 11) (pa_nil))))) (pa_cons (pe_tupX (pa_cons (pe_op opr_add (pv 9) (pe_slice sl_u (pv 9) (po_none) (po_some (pe_int)))) (pa_cons (pv 10) (pa_cons (pv 11) (pa_nil))))) (pa_nil)))))))
    (pss_cons (ps_set (i := 8) scl_spoilt.nd rfl (by first | exact Or.inl rfl | exact Or.inr rfl) (pe_ix ix_seq (pv 6) (pe_call G_l_next (hr.mono (by decide)) (by rfl) T.g_l_next T.F_l_next.kp T.b_l_next .nil pass0 (pa_cons (pv 0) (pa_cons (pe_callB cf_len (by rfl) T.n_len PySem.boot_len (pa_cons (pv 6) (pa_nil))) (pa_nil)))) (fun _ _ => rfl)))
    (pss_cons (ps_if ((pw_or ((pw_and (pt_cmpR (opr_eq hr.units) (pe_ix ix_seq (pv 8) (pe_int) (fun _ _ => rfl)) (pe_tupX (pa_cons (pe_int) (pa_cons (pe_int) (pa_nil)))) (nomark _)) (pw_and1 (pt_cmpR (opr_lt hr.units) (pe_callB cf_len (by rfl) T.n_len PySem.boot_len (pa_cons (pv 10) (pa_nil))) (pe_int) (nomark _)))).pt) (pw_or1 ((pw_and (pt_cmpR (opr_eq hr.units) (pe_ix ix_seq (pv 8) (pe_int) (fun _ _ => rfl)) (pe_tupX (pa_cons (pe_int) (pa_nil))) (nomark _)) (pw_and1 (pt_cmpR (opr_eq hr.units) (pe_ix ix_seq (pv 8) (pe_int) (fun _ _ => rfl)) (pe_op opr_add (pe_revT (pv 11)) (pe_tupX (pa_cons (pe_int) (pa_nil)))) (nomark _)))).pt))).pt) (pss_one (ps_ret (pe_tupX (pa_cons (pv 9) (pa_cons (pe_tupX (pa_nil)) (pa_cons (pe_tupX (pa_nil)) (pa_nil))))))) (pss_nil))
    (pss_one (ps_ret (pv 8)))))))))))))
theorem okl_spoilt (T : Txt K mg fA fD cA cC cP base) : FnOk P w K mg base CX0 2 (fA 31) (fD 31) ["state", "machine"] (spS (fun st ds r st' => f_l_spoilt st ds = some (r, st')) K) :=
  def_S T.F_l_spoilt scl_spoilt (fun _ _ _ _ h => len_S h) (t := denS K E0 c_l_spoilt) (fun cdv A outer s H E hr => (dnl_spoilt K fA cA) ▸ htl_spoilt T (okl_next T) cdv A outer s H E hr) (fun _ _ _ _ h => run_S (side_of (by rfl)) h)
abbrev sl_same : Stmt := topS 22
theorem scl_same : FnScope ["told", "due"] ["told", "due"] (defScope sl_same) := ⟨rfl, rfl, rfl, by decide +kernel, rfl, by decide +kernel, by decide +kernel⟩
def tml_same (K : PySem.W.Frag) (fA cA : Nat → Addr) : TS :=
  tRet (tOp (opK K .eq) (tCB (bfK K .repr) (tCons (tLst (tCons (tVar 0) (tNil))) (tNil))) (tCB (bfK K .repr) (tCons (tLst (tCons (tVar 1) (tNil))) (tNil))))
theorem dnl_same (K : PySem.W.Frag) (fA cA : Nat → Addr) : denS K E0 c_l_same = tml_same K fA cA := rfl
theorem htl_same (T : Txt K mg fA fD cA cC cP base)  (cdv : Value) (A : Around) (outer : List PySem.Env) (s : Shared) (H : Hp) (E : XK) (gA : A.guards = some []) (hr : Room 0 (A.deeper (envOfC "_law_same" (defScope sl_same) s.heap.objs.size (fA 22) cdv))) :
    PSs ((cxOf CX0 P w K mg base ["told", "due"] "_law_same" (defScope sl_same) (fA 22) cdv A outer s H E).nox) (defBody sl_same) (tml_same K fA cA) :=
  pss_one (ps_ret (pe_cmpR (opr_eq hr.units) (pe_callB (cf_repr gA (units70 hr)) (by rfl) T.n_repr (by decide +kernel) (pa_cons (pe_lst (pa_cons (pv 0) (pa_nil))) (pa_nil))) (pe_callB (cf_repr gA (units70 hr)) (by rfl) T.n_repr (by decide +kernel) (pa_cons (pe_lst (pa_cons (pv 1) (pa_nil))) (pa_nil))) (nomark _)))
theorem okl_same (T : Txt K mg fA fD cA cC cP base) : FnG P w K mg base CX0 1 (fA 22) (fD 22) ["told", "due"] (spD (fun ds r => f_l_same ds = some r) K) :=
  def_DG T.F_l_same scl_same (fun _ _ h => len_D h) (t := denS K E0 c_l_same) (fun cdv A outer s H E gA hr => (dnl_same K fA cA) ▸ htl_same T  cdv A outer s H E gA hr) (fun _ _ h => run_D (side_of (by rfl)) h)
abbrev slaw : Stmt := topS 32
theorem sclaw : FnScope ["script", "state", "letters", "k", "machine", "turn", "log", "room", "told"] ["script"] (defScope slaw) := ⟨rfl, rfl, rfl, by decide +kernel, rfl, by decide +kernel, by decide +kernel⟩
def tmlaw (K : PySem.W.Frag) (fA cA : Nat → Addr) : TS :=
  tSeq (tAsg (tLst (tCons (tCall (spD (fun ds r => f_l_stream ds = some r) K) [] E0 (tCons (tVar 0) (tNil))) (tCons (tC (.int 0)) (tNil)))) (gName 1)) (tSeq (tAsg (tCall (spS (fun st ds r st' => f_l_letters_2 st ds = some (r, st')) K) [] E0 (tCons (tVar 1) (tCons (tOp (opK K .add) (tC (.int 1)) (tCall (spS (fun st ds r st' => f_l_next st ds = some (r, st')) K) [] E0 (tCons (tVar 1) (tCons (tC (.int 4)) (tNil))))) (tNil)))) (gName 2)) (tSeq (tFor (iRng1 (tCons (tC (.int 3)) (tNil))) (gName 3) (tSeq (tAsg (tCall (spS (fun st ds r st' => f_l_machine_2 st ds = some (r, st')) K) [] E0 (tCons (tVar 1) (tCons (tVar 2) (tCons (tOp (opK K .add) (tC (.int 1)) (tCall (spS (fun st ds r st' => f_l_next st ds = some (r, st')) K) [] E0 (tCons (tVar 1) (tCons (tC (.int 8)) (tNil))))) (tNil))))) (gName 4)) (tSeq (tIfS (tOr (tB (tNotN (tCall (spX (fun ds r => (f_check_machine (cl0 fA cA)) ds = some r) K) [] E0 (tCons (tVar 4) (tNil))))) (tNot (tB (tCall (spD (fun ds r => (f_l_refused (cl0 fA cA)) ds = some r) K) [] E0 (tCons (tCall (spS (fun st ds r st' => f_l_spoilt st ds = some (r, st')) K) [] E0 (tCons (tVar 1) (tCons (tVar 4) (tNil)))) (tNil)))))) (tRet (tC (.bl false))) (tNext)) (tFor (iRng1 (tCons (tC (.int 3)) (tNil))) (gName 5) (tSeq (tAsg (tCall (spS (fun st ds r st' => f_l_log_3 st ds = some (r, st')) K) [] E0 (tCons (tVar 1) (tCons (tVar 2) (tCons (tOp (opK K .ix) (tLst (tCons (tCall (spS (fun st ds r st' => f_l_next st ds = some (r, st')) K) [] E0 (tCons (tVar 1) (tCons (tC (.int 6)) (tNil)))) (tCons (tCall (spS (fun st ds r st' => f_l_next st ds = some (r, st')) K) [] E0 (tCons (tVar 1) (tCons (tC (.int 60)) (tNil)))) (tCons (tC (.int 1000)) (tNil))))) (tOp (opK K .add) (tCB (bfK K .int) (tCons (tOp (opK K .eq) (tCall (spS (fun st ds r st' => f_l_next st ds = some (r, st')) K) [] E0 (tCons (tVar 1) (tCons (tC (.int 40)) (tNil)))) (tC (.int 0))) (tNil))) (tCB (bfK K .int) (tCons (tCall (spS (fun st ds r st' => f_l_next st ds = some (r, st')) K) [] E0 (tCons (tVar 1) (tCons (tC (.int 2)) (tNil)))) (tNil))))) (tNil))))) (gName 6)) (tSeq (tAsg (tCall (spD (fun ds r => f_l_behind ds = some r) K) [] E0 (tCons (tVar 4) (tCons (tVar 6) (tNil)))) (gName 7)) (tSeq (tAsg (tCall (spD (fun ds r => f_lets ds = some r) K) [] E0 (tCons (tVar 4) (tCons (tVar 6) (tNil)))) (gName 8)) (tIfS (tOr (tNot (tB (tCall (spD (fun ds r => f_l_same ds = some r) K) [] E0 (tCons (tCall (spD (fun ds r => f_room_behind ds = some r) K) [] E0 (tCons (tVar 4) (tCons (tVar 6) (tNil)))) (tCons (tVar 7) (tNil)))))) (tOr (tAnd (tTest (tOp (rIsBl true) (tVar 8) (tC (.bl true)))) (tTest (tOp (rIsBl true) (tVar 8) (tC (.bl false))))) (tTest (tOp (opK K .ne) (tVar 8) (tOp (opK K .isIn) (tVar 7) (tOp (opK K .ix) (tVar 4) (tC (.int 2)))))))) (tRet (tC (.bl false))) (tNext))))))))) (tRet (tOp (opK K .eq) (tC (.int 8)) (tC (.int 8))))))
theorem dnlaw (K : PySem.W.Frag) (fA cA : Nat → Addr) : denS K E0 (c_law_12 (cl0 fA cA)) = tmlaw K fA cA := rfl
theorem htlaw (T : Txt K mg fA fD cA cC cP base) (G_l_same : FnG P w K mg base CX0 1 (fA 22) (fD 22) ["told", "due"] (spD (fun ds r => f_l_same ds = some r) K)) (G_room_behind : FnOk P w K mg base CX0 1 (fA 19) (fD 19) ["machine", "log"] (spD (fun ds r => f_room_behind ds = some r) K)) (G_lets : FnOk P w K mg base CX0 2 (fA 20) (fD 20) ["machine", "log"] (spD (fun ds r => f_lets ds = some r) K)) (G_l_behind : FnOk P w K mg base CX0 1 (fA 28) (fD 28) ["machine", "log"] (spD (fun ds r => f_l_behind ds = some r) K)) (G_l_log : FnOk P w K mg base CX0 2 (fA 29) (fD 29) ["state", "letters", "many"] (spS (fun st ds r st' => f_l_log_3 st ds = some (r, st')) K)) (G_l_next : FnOk P w K mg base CX0 1 (fA 24) (fD 24) ["state", "many"] (spS (fun st ds r st' => f_l_next st ds = some (r, st')) K)) (G_check_machine : FnOk P w K mg base (L2.CX P w) 3 (fA 17) (fD 17) ["machine"] (spX (fun ds r => (f_check_machine (cl0 fA cA)) ds = some r) K)) (G_l_refused : FnOk P w K mg base CX0 4 (fA 30) (fD 30) ["machine"] (spD (fun ds r => (f_l_refused (cl0 fA cA)) ds = some r) K)) (G_l_spoilt : FnOk P w K mg base CX0 2 (fA 31) (fD 31) ["state", "machine"] (spS (fun st ds r st' => f_l_spoilt st ds = some (r, st')) K)) (G_l_machine : FnOk P w K mg base CX0 2 (fA 27) (fD 27) ["state", "letters", "rooms"] (spS (fun st ds r st' => f_l_machine_2 st ds = some (r, st')) K)) (G_l_letters : FnOk P w K mg base CX0 3 (fA 26) (fD 26) ["state", "many"] (spS (fun st ds r st' => f_l_letters_2 st ds = some (r, st')) K)) (G_l_stream : FnOk P w K mg base CX0 1 (fA 23) (fD 23) ["script"] (spD (fun ds r => f_l_stream ds = some r) K)) (cdv : Value) (A : Around) (outer : List PySem.Env) (s : Shared) (H : Hp) (E : XK) (gA : A.guards = some []) (hr : Room 4 (A.deeper (envOfC "law" (defScope slaw) s.heap.objs.size (fA 32) cdv))) :
    PSs ((cxOf CX0 P w K mg base ["script", "state", "letters", "k", "machine", "turn", "log", "room", "told"] "law" (defScope slaw) (fA 32) cdv A outer s H E).nox) (defBody slaw) (tmlaw K fA cA) :=
  pss_cons (ps_set (i := 1) sclaw.nd rfl (by first | exact Or.inl rfl | exact Or.inr rfl) (pe_lst (pa_cons (pe_call G_l_stream (hr.mono (by decide)) (by rfl) T.g_l_stream T.F_l_stream.kp T.b_l_stream .nil pass0 (pa_cons (pv 0) (pa_nil))) (pa_cons (pe_int) (pa_nil)))))
    (pss_cons (ps_set (i := 2) sclaw.nd rfl (by first | exact Or.inl rfl | exact Or.inr rfl) (pe_call G_l_letters (hr.mono (by decide)) (by rfl) T.g_l_letters T.F_l_letters.kp T.b_l_letters .nil pass0 (pa_cons (pv 1) (pa_cons (pe_op opr_add (pe_int) (pe_call G_l_next (hr.mono (by decide)) (by rfl) T.g_l_next T.F_l_next.kp T.b_l_next .nil pass0 (pa_cons (pv 1) (pa_cons (pe_int) (pa_nil))))) (pa_nil)))))
    (pss_cons (ps_for PassesOwn.never rfl (pi_range1 (by rfl) T.n_range (pa_cons (pe_int) (pa_nil))) (pg_name (i := 3) sclaw.nd rfl (by first | exact Or.inl rfl | exact Or.inr rfl))
    (pss_cons (ps_set (i := 4) sclaw.nd rfl (by first | exact Or.inl rfl | exact Or.inr rfl) (pe_call G_l_machine (hr.mono (by decide)) (by rfl) T.g_l_machine T.F_l_machine.kp T.b_l_machine .nil pass0 (pa_cons (pv 1) (pa_cons (pv 2) (pa_cons (pe_op opr_add (pe_int) (pe_call G_l_next (hr.mono (by decide)) (by rfl) T.g_l_next T.F_l_next.kp T.b_l_next .nil pass0 (pa_cons (pv 1) (pa_cons (pe_int) (pa_nil))))) (pa_nil))))))
    (pss_cons (ps_if ((pw_or (pt_cmp (pc_notN (pe_call G_check_machine (hr.mono (by decide)) (by rfl) T.g_check_machine T.F_check_machine.kp T.b_check_machine .nil (passX rfl rfl) (pa_cons (pv 4) (pa_nil))))) (pw_or1 (pt_not (pt_val (pe_call G_l_refused (hr.mono (by decide)) (by rfl) T.g_l_refused T.F_l_refused.kp T.b_l_refused .nil pass0 (pa_cons (pe_call G_l_spoilt (hr.mono (by decide)) (by rfl) T.g_l_spoilt T.F_l_spoilt.kp T.b_l_spoilt .nil pass0 (pa_cons (pv 1) (pa_cons (pv 4) (pa_nil)))) (pa_nil))))))).pt) (pss_one (ps_ret (pe_bl))) (pss_nil))
    (pss_one (ps_for PassesOwn.never rfl (pi_range1 (by rfl) T.n_range (pa_cons (pe_int) (pa_nil))) (pg_name (i := 5) sclaw.nd rfl (by first | exact Or.inl rfl | exact Or.inr rfl))
    (pss_cons (ps_set (i := 6) sclaw.nd rfl (by first | exact Or.inl rfl | exact Or.inr rfl) (pe_call G_l_log (hr.mono (by decide)) (by rfl) T.g_l_log T.F_l_log.kp T.b_l_log .nil pass0 (pa_cons (pv 1) (pa_cons (pv 2) (pa_cons (pe_ix ix_seq (pe_lst (pa_cons (pe_call G_l_next (hr.mono (by decide)) (by rfl) T.g_l_next T.F_l_next.kp T.b_l_next .nil pass0 (pa_cons (pv 1) (pa_cons (pe_int) (pa_nil)))) (pa_cons (pe_call G_l_next (hr.mono (by decide)) (by rfl) T.g_l_next T.F_l_next.kp T.b_l_next .nil pass0 (pa_cons (pv 1) (pa_cons (pe_int) (pa_nil)))) (pa_cons (pe_int) (pa_nil))))) (pe_op opr_add (pe_callTy cf_int (by rfl) T.n_int (by decide +kernel) (pa_cons (pe_cmpR (opr_eq hr.units) (pe_call G_l_next (hr.mono (by decide)) (by rfl) T.g_l_next T.F_l_next.kp T.b_l_next .nil pass0 (pa_cons (pv 1) (pa_cons (pe_int) (pa_nil)))) (pe_int) (nomark _)) (pa_nil))) (pe_callTy cf_int (by rfl) T.n_int (by decide +kernel) (pa_cons (pe_call G_l_next (hr.mono (by decide)) (by rfl) T.g_l_next T.F_l_next.kp T.b_l_next .nil pass0 (pa_cons (pv 1) (pa_cons (pe_int) (pa_nil)))) (pa_nil)))) (fun _ _ => rfl)) (pa_nil))))))
    (pss_cons (ps_set (i := 7) sclaw.nd rfl (by first | exact Or.inl rfl | exact Or.inr rfl) (pe_call G_l_behind (hr.mono (by decide)) (by rfl) T.g_l_behind T.F_l_behind.kp T.b_l_behind .nil pass0 (pa_cons (pv 4) (pa_cons (pv 6) (pa_nil)))))
    (pss_cons (ps_set (i := 8) sclaw.nd rfl (by first | exact Or.inl rfl | exact Or.inr rfl) (pe_call G_lets (hr.mono (by decide)) (by rfl) T.g_lets T.F_lets.kp T.b_lets .nil pass0 (pa_cons (pv 4) (pa_cons (pv 6) (pa_nil)))))
    (pss_one (ps_if ((pw_or (pt_not (pt_val (pe_callG G_l_same gA (hr.mono (by decide)) (by rfl) T.g_l_same T.F_l_same.kp T.b_l_same .nil pass0 (pa_cons (pe_call G_room_behind (hr.mono (by decide)) (by rfl) T.g_room_behind T.F_room_behind.kp T.b_room_behind .nil pass0 (pa_cons (pv 4) (pa_cons (pv 6) (pa_nil)))) (pa_cons (pv 7) (pa_nil)))))) (pw_or ((pw_and (pt_cmpR op_isnot_bl (pv 8) (pe_bl) (nomark _)) (pw_and1 (pt_cmpR op_isnot_bl (pv 8) (pe_bl) (nomark _)))).pt) (pw_or1 (pt_cmpR (opr_ne hr.units) (pv 8) (pe_cmpR (opr_in (units65 hr)) (pv 7) (pe_ix ix_seq (pv 4) (pe_int) (fun _ _ => rfl)) rfl) (nomark _))))).pt) (pss_one (ps_ret (pe_bl))) (pss_nil)))))))))))
    (pss_one (ps_ret (pe_cmpR (opr_eq hr.units) (pe_cI (by rfl) T.c_MAX_ROOMS) (pe_int) (nomark _))))))
theorem oklaw (T : Txt K mg fA fD cA cC cP base) : FnG P w K mg base CX0 5 (fA 32) (fD 32) ["script"] (spD (fun ds r => (f_law_12 (cl0 fA cA)) ds = some r) K) :=
  def_DG T.F_law sclaw (fun _ _ h => len_D h) (t := denS K E0 (c_law_12 (cl0 fA cA))) (fun cdv A outer s H E gA hr => (dnlaw K fA cA) ▸ htlaw T (okl_same T) (okroom_behind T) (oklets T) (okl_behind T) (okl_log T) (okl_next T) (okcheck_machine T) (okl_refused T) (okl_spoilt T) (okl_machine T) (okl_letters T) (okl_stream T) cdv A outer s H E gA hr) (fun _ _ h => run_D (side_of (by rfl)) h)
end
end K04
namespace EV
open PySem PySem.Spec PyProof.Rows L2 DL
section
variable {β : Type} {kd : D → Option β}
def tupI (l : List Int) : D := .tuple (l.map .int)
theorem aI_int {ns : List Int} {i : Int} (h0 : 0 ≤ i) (h1 : i < ns.length) : aI (ns.map PyData.int) i kd = kd (.int (ns.getD i.toNat 0)) := by
  unfold aI
  rw [atI_ints h0 h1]; rfl
theorem nthD_map {α : Type} {f : α → D} {xs : List α} {i : Nat} (d : α) (h : i < xs.length) : nthD (xs.map f) i = f (xs.getD i d) := by
  unfold nthD
  simp [List.getD_eq_getElem?_getD, List.getElem?_map, List.getElem?_eq_getElem h]
theorem aI_map {α : Type} {f : α → D} {xs : List α} {i : Int} (d : α) (h0 : 0 ≤ i) (h1 : i < xs.length) : aI (xs.map f) i kd = kd (f (xs.getD i.toNat d)) := by
  rw [aI_in h0 (by rw [List.length_map]; exact h1), nthD_map d (by omega)]
theorem aI_str {ns : List Str} {i : Int} (h0 : 0 ≤ i) (h1 : i < ns.length) : aI (ns.map PyData.str) i kd = kd (.str (ns.getD i.toNat "")) := aI_map (f := PyData.str) ("" : Str) h0 h1
theorem aI_row {ns : List (List Int)} {i : Int} (h0 : 0 ≤ i) (h1 : i < ns.length) : aI (ns.map tupI) i kd = kd (tupI (ns.getD i.toNat [])) := aI_map [] h0 h1
theorem aI_i1 {a i : Int} (h0 : 0 ≤ i) (h1 : i < 1) : aI [.int a] i kd = kd (.int ([a].getD i.toNat 0)) := aI_int (ns := [a]) h0 (by simp only [List.length_cons, List.length_nil]; omega)
theorem aI_i2 {a b i : Int} (h0 : 0 ≤ i) (h1 : i < 2) : aI [.int a, .int b] i kd = kd (.int ([a, b].getD i.toNat 0)) := aI_int (ns := [a, b]) h0 (by simp only [List.length_cons, List.length_nil]; omega)
theorem aI_i3 {a b c i : Int} (h0 : 0 ≤ i) (h1 : i < 3) : aI [.int a, .int b, .int c] i kd = kd (.int ([a, b, c].getD i.toNat 0)) := aI_int (ns := [a, b, c]) h0 (by simp only [List.length_cons, List.length_nil]; omega)
theorem aI_i4 {a b c d i : Int} (h0 : 0 ≤ i) (h1 : i < 4) : aI [.int a, .int b, .int c, .int d] i kd = kd (.int ([a, b, c, d].getD i.toNat 0)) := aI_int (ns := [a, b, c, d]) h0 (by simp only [List.length_cons, List.length_nil]; omega)
theorem aI_i5 {a b c d e i : Int} (h0 : 0 ≤ i) (h1 : i < 5) : aI [.int a, .int b, .int c, .int d, .int e] i kd = kd (.int ([a, b, c, d, e].getD i.toNat 0)) := aI_int (ns := [a, b, c, d, e]) h0 (by simp only [List.length_cons, List.length_nil]; omega)
theorem aI_i6 {a b c d e f i : Int} (h0 : 0 ≤ i) (h1 : i < 6) : aI [.int a, .int b, .int c, .int d, .int e, .int f] i kd = kd (.int ([a, b, c, d, e, f].getD i.toNat 0)) := aI_int (ns := [a, b, c, d, e, f]) h0 (by simp only [List.length_cons, List.length_nil]; omega)
theorem aI_b2 {a b : D} {c : Bool} : aI [a, b] (if c = true then 1 else 0) kd = kd (if c = true then b else a) := by
  cases c
  · exact aI_0
  · exact aI_1
def sgn (z : Str) (j : Nat) : Str := ⟨#[z.cps.toList.getD j 0]⟩
theorem oZ_ixS {z : Str} {i : Int} {kz : Rz → Option β} (h0 : 0 ≤ i) (h1 : i < z.length) (hz : z.length ≤ sizeLine) : oZ .ix (.str z) (.int i) kz = kz (.d (.str (sgn z i.toNat))) := by
  show Option.bind (if _ then _ else none) _ = _
  rw [if_pos hz]
  have hl : z.cps.toList.length = z.length := by simp [Str.length]
  have : atI z.cps.toList i = some (z.cps.toList.getD i.toNat 0) := by
    unfold atI ixN
    rw [if_pos h0, if_pos (by rw [hl]; exact h1)]
    show z.cps.toList[i.toNat]? = _
    rw [List.getD_eq_getElem?_getD, List.getElem?_eq_getElem (by omega)]
    rfl
  rw [this]; rfl
theorem len_abyz : ("abyz" : Str).length = 4 := by decide
theorem len_az : ("abcdefghijklmnopqrstuvwxyz" : Str).length = 26 := by decide
theorem oZ_abyz {i : Int} {kz : Rz → Option β} (h0 : 0 ≤ i) (h1 : i < 4) : oZ .ix (.str "abyz") (.int i) kz = kz (.d (.str (sgn "abyz" i.toNat))) := oZ_ixS h0 (by rw [len_abyz]; exact h1) (by rw [len_abyz, sizeLine_eq]; omega)
theorem oZ_az {i : Int} {kz : Rz → Option β} (h0 : 0 ≤ i) (h1 : i < 26) : oZ .ix (.str "abcdefghijklmnopqrstuvwxyz") (.int i) kz = kz (.d (.str (sgn "abcdefghijklmnopqrstuvwxyz" i.toNat))) := oZ_ixS h0 (by rw [len_az]; exact h1) (by rw [len_az, sizeLine_eq]; omega)
theorem sgn_len {z : Str} {j : Nat} : (sgn z j).length = 1 := rfl
theorem canLayInts : ∀ ns : List Int, PyData.canLayAll0 (ns.map PyData.int) = true
  | [] => rfl
  | _ :: ns => by simp [PyData.canLayAll0, PyData.canLay0, canLayInts ns]
theorem shT (l : List Int) : SeqAt.shaped (tupI l) = true := by
  unfold SeqAt.shaped tupI
  simp [PyData.canLay0, canLayInts, PyData.depth, depthInts]
theorem eqvAllInts : ∀ a b : List Int, PyData.eqvAll (a.map .int) (b.map .int) = decide (a = b)
  | [], [] => rfl
  | [], _ :: _ => rfl
  | _ :: _, [] => rfl
  | x :: a, y :: b => by
    rw [List.map_cons, List.map_cons, PyData.eqvAll, eqvAllInts a b]
    show ((x == y) && decide (a = b)) = _
    by_cases h : x = y <;> by_cases h2 : a = b <;> simp [h, h2]
theorem inD_ints (x : Int) : ∀ E : List Int, inD (.int x) (E.map .int) = decide (x ∈ E)
  | [] => rfl
  | a :: E => by
    have := inD_ints x E
    unfold inD at this ⊢
    rw [List.map_cons, List.any_cons, this]
    show ((a == x) || _) = _
    by_cases h : a = x
    · subst h; simp
    · have h2 : ¬ x = a := fun z => h z.symm
      have h3 : (a == x) = false := beq_eq_false_iff_ne.mpr h
      simp [h2, h3]
theorem inD_strs (x : Str) : ∀ E : List Str, inD (.str x) (E.map .str) = decide (x ∈ E)
  | [] => rfl
  | a :: E => by
    have := inD_strs x E
    unfold inD at this ⊢
    rw [List.map_cons, List.any_cons, this]
    show ((a == x) || _) = _
    by_cases h : a = x
    · subst h; simp
    · have h2 : ¬ x = a := fun z => h z.symm
      have h3 : (a == x) = false := beq_eq_false_iff_ne.mpr h
      simp [h2, h3]
def fixS (x : Str) : List Str → Nat
  | [] => 0
  | y :: l => if y = x then 0 else fixS x l + 1
theorem idxS_fix {x : Str} : ∀ {E : List Str}, x ∈ E → idxS x E = some (fixS x E)
  | [], h => by cases h
  | y :: E, h => by
    rw [idxS, fixS]
    by_cases e : y = x
    · simp [e]
    · have : x ∈ E := (List.mem_cons.mp h).resolve_left fun z => e z.symm
      simp [e, idxS_fix this]
theorem ixS_fix {x : Str} {E : List Str} {k : Nat → Option β} (h : x ∈ E) : ixS x (E.map .str) k = k (fixS x E) := by
  unfold ixS
  rw [strsOf_map]
  show (idxS x E).bind k = _
  rw [idxS_fix h]; rfl
end
theorem lc_map {α : Type} (enc F : α → D) {f : D → Rho → Option (Option D × Rho)} {ρ : Rho} {xs : List α} (h : ∀ x ∈ xs, f (enc x) ρ = some (some (F x), ρ)) : lcGo f (xs.map enc) ρ = some (xs.map F, ρ) := by
  induction xs with
  | nil => rfl
  | cons x xs ih =>
    show (f (enc x) ρ).bind _ = _
    rw [h x List.mem_cons_self]
    show (lcGo f (xs.map enc) ρ).bind _ = _
    rw [ih fun y m => h y (List.mem_cons_of_mem _ m)]
    rfl
def lastE {α : Type} (enc : α → D) : List α → Ent → Ent
  | [], e => e
  | x :: xs, _ => lastE enc xs (.dat (enc x))
theorem for_fold {α σ : Type} (enc : α → D) (step : σ → α → σ) (R : σ → Ent → Rho) (P : σ → Prop) {f : D → Rho → Option Out} : ∀ {xs : List α} {s : σ} {e : Ent}, P s → (∀ s e x, x ∈ xs → P s → f (enc x) (R s e) = some (.nx (R (step s x) (.dat (enc x)))) ∧ P (step s x)) →
    forGo f (xs.map enc) (R s e) = some (.nx (R (xs.foldl step s) (lastE enc xs e))) ∧ P (xs.foldl step s)
  | [], s, e, hp, _ => ⟨rfl, hp⟩
  | x :: xs, s, e, hp, h => by
    obtain ⟨h1, h2⟩ := h s e x List.mem_cons_self hp
    obtain ⟨h3, h4⟩ := for_fold enc step R P (xs := xs) (e := .dat (enc x)) h2 fun s e y m => h s e y (List.mem_cons_of_mem _ m)
    refine ⟨?_, h4⟩
    show (f (enc x) (R s e)).bind _ = _
    rw [h1]
    exact h3
theorem cZ_lenP {β : Type} {l : List Int} {kz : Rz → Option β} : cZ .len [tupI l] kz = kz (.d (.int l.length)) := by unfold tupI; rw [cZ_lenTm]
theorem oZ_ixP {β : Type} {l : List Int} {i : Int} {kz : Rz → Option β} (h0 : 0 ≤ i) (h1 : i < l.length) : oZ .ix (tupI l) (.int i) kz = kz (.d (.int (l.getD i.toNat 0))) := by unfold tupI; rw [oZ_ixT, aI_int h0 h1]
theorem sD_P {β : Type} {l : List Int} {kl : List D → Option β} : sD (tupI l) kl = kl (l.map .int) := rfl
theorem cZ_lstP {β : Type} {l : List Int} {kz : Rz → Option β} : cZ .list [tupI l] kz = kz (.n (l.map .int)) := rfl
end EV
set_option autoImplicit false
namespace CS
open PySem PySem.Spec PyProof.Rows L2 DL EV
local macro_rules | `(tactic| walk_at "side") => `(tactic| first | omega | (simp only [List.length_cons, List.length_nil, List.length_map, List.length_append, List.length_range, PySem.sizeLine_eq]; omega) | assumption | (simp; done))
theorem next_eq {N : List Int} {k many : Int} (G : Good N) (h0 : 0 ≤ k) (h1 : k < KMax) (hm : 0 < many) : f_l_next (stAt N k) [.int many] = some (.dat (.int (nxt N k many)), stAt N (k + 1)) := by
  have hp := G.pos
  have hl := G.len
  have hd := good_div G (k := k + 1) (by omega) (by omega)
  have e1 : 0 ≤ (k + 1) % (N.length : Int) := Int.emod_nonneg _ (by omega)
  have e2 : (k + 1) % (N.length : Int) < N.length := Int.emod_lt_of_pos _ (by omega)
  have hK : KMax = 1000000000 := rfl
  rw [x_l_next]
  unfold stAt nxt
  simp (config := { implicitDefEqProofs := false }) (disch := walk_at "side") only [↓reduceIte, decide_eq_true_eq, decide_true, decide_false, Bool.not_true, Bool.not_false, Bool.false_eq_true, Int.reduceEq, Int.reduceLT, Int.reduceLE, Int.reduceNeg, Int.reduceToNat, ↓okI, ↓okI2, ↓aV_d, ↓aV_o, ↓aV_n, ↓aV_w, ↓dV_d, ↓dV_n, ↓dV_w, ↓gE_0, ↓gE_s, ↓eL_l, ↓eD_l, ↓eV_d, ↓eV_l, ↓nA_d, ↓nA_o, ↓iD_i, ↓bD_b, ↓kD_i, ↓kD_s, ↓zD_d, ↓vZ_d, ↓vZ_n, ↓sR_0, ↓sR_s, ↓sK_n, ↓sK_0, ↓lD_l, ↓sD_l, ↓sD_t, ↓tD_t, ↓dA_nil, ↓dA_d, ↓dN_nil, ↓dN_c, ↓oZ_addI, ↓oZ_addS, ↓oZ_addT, ↓oZ_addL, ↓oZ_sub, ↓oZ_mul, ↓oZ_mulT, ↓oZ_mulL, ↓oZ_fdiv, ↓oZ_mod, ↓oZ_pow, ↓oZ_eqI, ↓oZ_eqS, ↓oZ_neS, ↓oZ_neI, ↓oZ_lt, ↓oZ_le, ↓oZ_gt, ↓oZ_ge, ↓oZ_ixL, ↓oZ_ixT, ↓aI_0, ↓aI_1, ↓aI_2, ↓nI_0, ↓nI_1, ↓lS_0, ↓lS_s, ↓aI_int, ↓aI_str, ↓aI_row, ↓aI_b2, ↓aI_i1, ↓aI_i2, ↓aI_i3, ↓aI_i4, ↓aI_i5, ↓aI_i6, ↓oZ_abyz, ↓oZ_az, ↓cZ_lenLm, ↓cZ_lenTm, ↓cZ_lenP, ↓oZ_ixP, ↓sD_P, ↓cZ_lstP, ↓cZ_abs, ↓cZ_int, ↓cZ_intB, ↓cZ_tup, ↓cZ_lstL, ↓cZ_lstT, ↓cZ_all, ↓cZ_any, ↓cZ_max2, ↓cZ_min2, ↓cZ_sum, ↓cZ_sorted, ↓xE_int, ↓xE_bl, ↓xE_str, ↓xE_non, ↓xE_var, ↓xE_op, ↓xE_neg, ↓xE_nt, ↓xE_an, ↓xE_or, ↓xE_ch, ↓xE_isN, ↓xE_notN, ↓xE_ife, ↓xE_tup, ↓xE_lst, ↓xE_sl, ↓sl1_T, ↓sl1_L, ↓xE_cb, ↓xE_isa, ↓xE_call, ↓xE_callS, ↓xE_lc, ↓xE_lc2, ↓xE_callL, ↓rvA_d, ↓tw2_t, ↓sN_0, ↓sN_s, ↓xE_lrg, ↓xE_trg, ↓xE_pop, ↓xE_idxL, ↓sT_s, ↓xE_idxT, ↓xE_dget, ↓xE_din, ↓xE_dnin, ↓xE_dset, ↓xA_nil, ↓xA_cons, ↓xT_te, ↓xT_tb, ↓xT_nt, ↓xT_an, ↓xT_or, ↓xT_yes, ↓xT_lend, ↓xP_no, ↓xP_at, ↓xI_rng1, ↓xI_rng2, ↓xI_u, ↓xI_en, ↓xG_nm, ↓xG_tup, ↓xGs_nil, ↓xGs_cons, ↓sV_d, ↓sV_n, ↓sV_w, ↓rV_d, ↓rV_n, ↓rV_w, ↓rV_o, ↓xS_set, ↓xS_asg, ↓xS_seti, ↓xS_app, ↓xS_newD, ↓xS_dput, ↓xS_drop, ↓xS_ret, ↓xS_retN, ↓xS_iff, ↓xS_for, ↓xS_wh, ↓xS_brk, ↓xS_cont, ↓xS_nx, ↓xS_seq, ↓xS_fz, ↓fzK_l, ↓fzK_d, ↓fzK_n, ↓fzK_D, ↓kS_nx, ↓kS_rt, ↓kS_bk, ↓kS_ct, ↓out1_rt, ↓out2_rt, ↓u_c_l_next]
theorem stream1 {s c m : Ent} : ∀ (l : List D) (acc : List Int) (r : Int) (kk : Ent), acc.length + l.length ≤ 100000 → ∃ r' k', forGo (trn [] (.nm 4) b_l_stream_1) l [s, .own (.lst (acc.map .int)), c, .dat (.int r), kk, m] = some (.nx [s, .own (.lst ((acc ++ dig l.length r).map .int)), c, r', k', m])
  | [], acc, r, kk, _ => ⟨.dat (.int r), kk, by simp [forGo, dig]⟩
  | x :: l, acc, r, kk, h => by
    rw [List.length_cons] at h
    rw [forGo_x]
    simp (config := { implicitDefEqProofs := false }) (disch := walk_at "side") only [↓reduceIte, decide_eq_true_eq, decide_true, decide_false, Bool.not_true, Bool.not_false, Bool.false_eq_true, Int.reduceEq, Int.reduceLT, Int.reduceLE, Int.reduceNeg, Int.reduceToNat, ↓okI, ↓okI2, ↓aV_d, ↓aV_o, ↓aV_n, ↓aV_w, ↓dV_d, ↓dV_n, ↓dV_w, ↓gE_0, ↓gE_s, ↓eL_l, ↓eD_l, ↓eV_d, ↓eV_l, ↓nA_d, ↓nA_o, ↓iD_i, ↓bD_b, ↓kD_i, ↓kD_s, ↓zD_d, ↓vZ_d, ↓vZ_n, ↓sR_0, ↓sR_s, ↓sK_n, ↓sK_0, ↓lD_l, ↓sD_l, ↓sD_t, ↓tD_t, ↓dA_nil, ↓dA_d, ↓dN_nil, ↓dN_c, ↓oZ_addI, ↓oZ_addS, ↓oZ_addT, ↓oZ_addL, ↓oZ_sub, ↓oZ_mul, ↓oZ_mulT, ↓oZ_mulL, ↓oZ_fdiv, ↓oZ_mod, ↓oZ_pow, ↓oZ_eqI, ↓oZ_eqS, ↓oZ_neS, ↓oZ_neI, ↓oZ_lt, ↓oZ_le, ↓oZ_gt, ↓oZ_ge, ↓oZ_ixL, ↓oZ_ixT, ↓aI_0, ↓aI_1, ↓aI_2, ↓nI_0, ↓nI_1, ↓lS_0, ↓lS_s, ↓aI_int, ↓aI_str, ↓aI_row, ↓aI_b2, ↓aI_i1, ↓aI_i2, ↓aI_i3, ↓aI_i4, ↓aI_i5, ↓aI_i6, ↓oZ_abyz, ↓oZ_az, ↓cZ_lenLm, ↓cZ_lenTm, ↓cZ_lenP, ↓oZ_ixP, ↓sD_P, ↓cZ_lstP, ↓cZ_abs, ↓cZ_int, ↓cZ_intB, ↓cZ_tup, ↓cZ_lstL, ↓cZ_lstT, ↓cZ_all, ↓cZ_any, ↓cZ_max2, ↓cZ_min2, ↓cZ_sum, ↓cZ_sorted, ↓xE_int, ↓xE_bl, ↓xE_str, ↓xE_non, ↓xE_var, ↓xE_op, ↓xE_neg, ↓xE_nt, ↓xE_an, ↓xE_or, ↓xE_ch, ↓xE_isN, ↓xE_notN, ↓xE_ife, ↓xE_tup, ↓xE_lst, ↓xE_sl, ↓sl1_T, ↓sl1_L, ↓xE_cb, ↓xE_isa, ↓xE_call, ↓xE_callS, ↓xE_lc, ↓xE_lc2, ↓xE_callL, ↓rvA_d, ↓tw2_t, ↓sN_0, ↓sN_s, ↓xE_lrg, ↓xE_trg, ↓xE_pop, ↓xE_idxL, ↓sT_s, ↓xE_idxT, ↓xE_dget, ↓xE_din, ↓xE_dnin, ↓xE_dset, ↓xA_nil, ↓xA_cons, ↓xT_te, ↓xT_tb, ↓xT_nt, ↓xT_an, ↓xT_or, ↓xT_yes, ↓xT_lend, ↓xP_no, ↓xP_at, ↓xI_rng1, ↓xI_rng2, ↓xI_u, ↓xI_en, ↓xG_nm, ↓xG_tup, ↓xGs_nil, ↓xGs_cons, ↓sV_d, ↓sV_n, ↓sV_w, ↓rV_d, ↓rV_n, ↓rV_w, ↓rV_o, ↓xS_set, ↓xS_asg, ↓xS_seti, ↓xS_app, ↓xS_newD, ↓xS_dput, ↓xS_drop, ↓xS_ret, ↓xS_retN, ↓xS_iff, ↓xS_for, ↓xS_wh, ↓xS_brk, ↓xS_cont, ↓xS_nx, ↓xS_seq, ↓xS_fz, ↓fzK_l, ↓fzK_d, ↓fzK_n, ↓fzK_D, ↓kS_nx, ↓kS_rt, ↓kS_bk, ↓kS_ct, ↓out1_rt, ↓out2_rt, ↓u_b_l_stream_1, ↓aft_bk]
    by_cases q : r / 1009 = 0
    · refine ⟨.dat (.int (r / 1009)), .dat x, ?_⟩
      simp [q, dig]
    · obtain ⟨r', k', e⟩ := stream1 l (acc ++ [r % 1009]) (r / 1009) (.dat x) (by rw [List.length_append, List.length_singleton]; omega)
      refine ⟨r', k', ?_⟩
      simp [q, dig] at e ⊢
      exact e
theorem stream2 {s c r m : Ent} {acc : List Int} {m0 : Int} {kk : Ent} (hm : 0 ≤ m0 ∧ m0 < 2147483647) (h : acc.length ≤ 100000) : forGo (trn [] (.nm 4) b_l_stream_3) (rgD 0 10) [s, .own (.lst (acc.map .int)), c, r, kk, .dat (.int m0)] = some (.nx [s, .own (.lst ((acc ++ (List.range 10).map (mxo m0)).map .int)), c, r, .dat (.int 9), .dat (.int (mxm m0 10))]) := by
  have bm : ∀ i, 0 ≤ mxm m0 i ∧ mxm m0 i < 2147483647 := fun i => by
    cases i with
    | zero => exact hm
    | succ i => exact ⟨Int.emod_nonneg _ (by omega), Int.emod_lt_of_pos _ (by omega)⟩
  refine for_inv (fun i => [s, .own (.lst ((acc ++ (List.range i).map (mxo m0)).map .int)), c, r, if i = 0 then kk else .dat (.int ((i : Int) - 1)), .dat (.int (mxm m0 i))]) (by simp [mxm]) (by rw [rgD_len]; rfl) fun i hi => ?_
  rw [rgD_len] at hi
  rw [rgD_at hi, trn_x]
  have b := bm i
  have hz : ((acc ++ (List.range i).map (mxo m0)).map PyData.int).length < sizeLine := by simp [sizeLine_eq]; omega
  simp (config := { implicitDefEqProofs := false }) (disch := walk_at "side") only [↓reduceIte, decide_eq_true_eq, decide_true, decide_false, Bool.not_true, Bool.not_false, Bool.false_eq_true, Int.reduceEq, Int.reduceLT, Int.reduceLE, Int.reduceNeg, Int.reduceToNat, ↓okI, ↓okI2, ↓aV_d, ↓aV_o, ↓aV_n, ↓aV_w, ↓dV_d, ↓dV_n, ↓dV_w, ↓gE_0, ↓gE_s, ↓eL_l, ↓eD_l, ↓eV_d, ↓eV_l, ↓nA_d, ↓nA_o, ↓iD_i, ↓bD_b, ↓kD_i, ↓kD_s, ↓zD_d, ↓vZ_d, ↓vZ_n, ↓sR_0, ↓sR_s, ↓sK_n, ↓sK_0, ↓lD_l, ↓sD_l, ↓sD_t, ↓tD_t, ↓dA_nil, ↓dA_d, ↓dN_nil, ↓dN_c, ↓oZ_addI, ↓oZ_addS, ↓oZ_addT, ↓oZ_addL, ↓oZ_sub, ↓oZ_mul, ↓oZ_mulT, ↓oZ_mulL, ↓oZ_fdiv, ↓oZ_mod, ↓oZ_pow, ↓oZ_eqI, ↓oZ_eqS, ↓oZ_neS, ↓oZ_neI, ↓oZ_lt, ↓oZ_le, ↓oZ_gt, ↓oZ_ge, ↓oZ_ixL, ↓oZ_ixT, ↓aI_0, ↓aI_1, ↓aI_2, ↓nI_0, ↓nI_1, ↓lS_0, ↓lS_s, ↓aI_int, ↓aI_str, ↓aI_row, ↓aI_b2, ↓aI_i1, ↓aI_i2, ↓aI_i3, ↓aI_i4, ↓aI_i5, ↓aI_i6, ↓oZ_abyz, ↓oZ_az, ↓cZ_lenLm, ↓cZ_lenTm, ↓cZ_lenP, ↓oZ_ixP, ↓sD_P, ↓cZ_lstP, ↓cZ_abs, ↓cZ_int, ↓cZ_intB, ↓cZ_tup, ↓cZ_lstL, ↓cZ_lstT, ↓cZ_all, ↓cZ_any, ↓cZ_max2, ↓cZ_min2, ↓cZ_sum, ↓cZ_sorted, ↓xE_int, ↓xE_bl, ↓xE_str, ↓xE_non, ↓xE_var, ↓xE_op, ↓xE_neg, ↓xE_nt, ↓xE_an, ↓xE_or, ↓xE_ch, ↓xE_isN, ↓xE_notN, ↓xE_ife, ↓xE_tup, ↓xE_lst, ↓xE_sl, ↓sl1_T, ↓sl1_L, ↓xE_cb, ↓xE_isa, ↓xE_call, ↓xE_callS, ↓xE_lc, ↓xE_lc2, ↓xE_callL, ↓rvA_d, ↓tw2_t, ↓sN_0, ↓sN_s, ↓xE_lrg, ↓xE_trg, ↓xE_pop, ↓xE_idxL, ↓sT_s, ↓xE_idxT, ↓xE_dget, ↓xE_din, ↓xE_dnin, ↓xE_dset, ↓xA_nil, ↓xA_cons, ↓xT_te, ↓xT_tb, ↓xT_nt, ↓xT_an, ↓xT_or, ↓xT_yes, ↓xT_lend, ↓xP_no, ↓xP_at, ↓xI_rng1, ↓xI_rng2, ↓xI_u, ↓xI_en, ↓xG_nm, ↓xG_tup, ↓xGs_nil, ↓xGs_cons, ↓sV_d, ↓sV_n, ↓sV_w, ↓rV_d, ↓rV_n, ↓rV_w, ↓rV_o, ↓xS_set, ↓xS_asg, ↓xS_seti, ↓xS_app, ↓xS_newD, ↓xS_dput, ↓xS_drop, ↓xS_ret, ↓xS_retN, ↓xS_iff, ↓xS_for, ↓xS_wh, ↓xS_brk, ↓xS_cont, ↓xS_nx, ↓xS_seq, ↓xS_fz, ↓fzK_l, ↓fzK_d, ↓fzK_n, ↓fzK_D, ↓kS_nx, ↓kS_rt, ↓kS_bk, ↓kS_ct, ↓out1_rt, ↓out2_rt, ↓u_b_l_stream_3]
  simp only [List.range_succ, List.map_append, List.map_cons, List.map_nil, ← List.append_assoc, mxo, mxm, Nat.add_one_ne_zero, if_false, Int.natCast_add, Int.zero_add]
  simp
theorem stream3 {s : Ent} {acc : List Int} {cell : Int} {e2 e3 e4 e5 : Ent} (h : acc.length ≤ 60 * 63) : ∃ f3 f4 f5, trn [] (.nm 2) b_l_stream_5 (.int cell) [s, .own (.lst (acc.map .int)), e2, e3, e4, e5] = some (.nx [s, .own (.lst ((acc ++ chunk cell).map .int)), .dat (.int cell), f3, f4, f5]) := by
  rw [trn_x]
  have e : (if cell < 0 then -cell else cell) = cellAbs cell := rfl
  have hA : 0 ≤ cellAbs cell := by unfold cellAbs; split <;> omega
  by_cases q : (10 : Int) ^ 18 ≤ cellAbs cell
  · obtain ⟨r', k', e1⟩ := stream1 (s := s) (c := .dat (.int cell)) (m := e5) (rgD 0 60) acc (cellAbs cell) e4 (by rw [rgD_len]; omega)
    have e2 : forGo (trn [] (.nm 4) b_l_stream_1) (rgD 0 (60 : Int).toNat) [s, .own (.lst (acc.map .int)), .dat (.int cell), .dat (.int (if cell < 0 then -cell else cell)), e4, e5] = _ := e1
    have ch : chunk cell = dig 60 (cellAbs cell) := by unfold chunk; rw [if_pos q]
    refine ⟨r', k', e5, ?_⟩
    simp (config := { implicitDefEqProofs := false }) (disch := walk_at "side") only [↓reduceIte, decide_eq_true_eq, decide_true, decide_false, Bool.not_true, Bool.not_false, Bool.false_eq_true, Int.reduceEq, Int.reduceLT, Int.reduceLE, Int.reduceNeg, Int.reduceToNat, ↓okI, ↓okI2, ↓aV_d, ↓aV_o, ↓aV_n, ↓aV_w, ↓dV_d, ↓dV_n, ↓dV_w, ↓gE_0, ↓gE_s, ↓eL_l, ↓eD_l, ↓eV_d, ↓eV_l, ↓nA_d, ↓nA_o, ↓iD_i, ↓bD_b, ↓kD_i, ↓kD_s, ↓zD_d, ↓vZ_d, ↓vZ_n, ↓sR_0, ↓sR_s, ↓sK_n, ↓sK_0, ↓lD_l, ↓sD_l, ↓sD_t, ↓tD_t, ↓dA_nil, ↓dA_d, ↓dN_nil, ↓dN_c, ↓oZ_addI, ↓oZ_addS, ↓oZ_addT, ↓oZ_addL, ↓oZ_sub, ↓oZ_mul, ↓oZ_mulT, ↓oZ_mulL, ↓oZ_fdiv, ↓oZ_mod, ↓oZ_pow, ↓oZ_eqI, ↓oZ_eqS, ↓oZ_neS, ↓oZ_neI, ↓oZ_lt, ↓oZ_le, ↓oZ_gt, ↓oZ_ge, ↓oZ_ixL, ↓oZ_ixT, ↓aI_0, ↓aI_1, ↓aI_2, ↓nI_0, ↓nI_1, ↓lS_0, ↓lS_s, ↓aI_int, ↓aI_str, ↓aI_row, ↓aI_b2, ↓aI_i1, ↓aI_i2, ↓aI_i3, ↓aI_i4, ↓aI_i5, ↓aI_i6, ↓oZ_abyz, ↓oZ_az, ↓cZ_lenLm, ↓cZ_lenTm, ↓cZ_lenP, ↓oZ_ixP, ↓sD_P, ↓cZ_lstP, ↓cZ_abs, ↓cZ_int, ↓cZ_intB, ↓cZ_tup, ↓cZ_lstL, ↓cZ_lstT, ↓cZ_all, ↓cZ_any, ↓cZ_max2, ↓cZ_min2, ↓cZ_sum, ↓cZ_sorted, ↓xE_int, ↓xE_bl, ↓xE_str, ↓xE_non, ↓xE_var, ↓xE_op, ↓xE_neg, ↓xE_nt, ↓xE_an, ↓xE_or, ↓xE_ch, ↓xE_isN, ↓xE_notN, ↓xE_ife, ↓xE_tup, ↓xE_lst, ↓xE_sl, ↓sl1_T, ↓sl1_L, ↓xE_cb, ↓xE_isa, ↓xE_call, ↓xE_callS, ↓xE_lc, ↓xE_lc2, ↓xE_callL, ↓rvA_d, ↓tw2_t, ↓sN_0, ↓sN_s, ↓xE_lrg, ↓xE_trg, ↓xE_pop, ↓xE_idxL, ↓sT_s, ↓xE_idxT, ↓xE_dget, ↓xE_din, ↓xE_dnin, ↓xE_dset, ↓xA_nil, ↓xA_cons, ↓xT_te, ↓xT_tb, ↓xT_nt, ↓xT_an, ↓xT_or, ↓xT_yes, ↓xT_lend, ↓xP_no, ↓xP_at, ↓xI_rng1, ↓xI_rng2, ↓xI_u, ↓xI_en, ↓xG_nm, ↓xG_tup, ↓xGs_nil, ↓xGs_cons, ↓sV_d, ↓sV_n, ↓sV_w, ↓rV_d, ↓rV_n, ↓rV_w, ↓rV_o, ↓xS_set, ↓xS_asg, ↓xS_seti, ↓xS_app, ↓xS_newD, ↓xS_dput, ↓xS_drop, ↓xS_ret, ↓xS_retN, ↓xS_iff, ↓xS_for, ↓xS_wh, ↓xS_brk, ↓xS_cont, ↓xS_nx, ↓xS_seq, ↓xS_fz, ↓fzK_l, ↓fzK_d, ↓fzK_n, ↓fzK_D, ↓kS_nx, ↓kS_rt, ↓kS_bk, ↓kS_ct, ↓out1_rt, ↓out2_rt, ↓u_b_l_stream_5, ↓fK_s e2]
    simp only [e, show ((10 : Int) ^ (18 : Int).toNat) = 10 ^ 18 from rfl, q, if_true, ch, rgD_len]
  · have e1 := stream2 (s := s) (c := .dat (.int cell)) (r := .dat (.int (cellAbs cell))) (m := e5) (acc := acc) (m0 := cellAbs cell % 2147483647) (kk := e4) ⟨Int.emod_nonneg _ (by omega), Int.emod_lt_of_pos _ (by omega)⟩ (by omega)
    have e2 : forGo (trn [] (.nm 4) b_l_stream_3) (rgD 0 (10 : Int).toNat) [s, .own (.lst (acc.map .int)), .dat (.int cell), .dat (.int (if cell < 0 then -cell else cell)), e4, .dat (.int ((if cell < 0 then -cell else cell) % 2147483647))] = _ := e1
    have ch : chunk cell = (List.range 10).map (mxo (cellAbs cell % 2147483647)) := by unfold chunk; rw [if_neg q]
    refine ⟨.dat (.int (cellAbs cell)), .dat (.int 9), .dat (.int (mxm (cellAbs cell % 2147483647) 10)), ?_⟩
    simp (config := { implicitDefEqProofs := false }) (disch := walk_at "side") only [↓reduceIte, decide_eq_true_eq, decide_true, decide_false, Bool.not_true, Bool.not_false, Bool.false_eq_true, Int.reduceEq, Int.reduceLT, Int.reduceLE, Int.reduceNeg, Int.reduceToNat, ↓okI, ↓okI2, ↓aV_d, ↓aV_o, ↓aV_n, ↓aV_w, ↓dV_d, ↓dV_n, ↓dV_w, ↓gE_0, ↓gE_s, ↓eL_l, ↓eD_l, ↓eV_d, ↓eV_l, ↓nA_d, ↓nA_o, ↓iD_i, ↓bD_b, ↓kD_i, ↓kD_s, ↓zD_d, ↓vZ_d, ↓vZ_n, ↓sR_0, ↓sR_s, ↓sK_n, ↓sK_0, ↓lD_l, ↓sD_l, ↓sD_t, ↓tD_t, ↓dA_nil, ↓dA_d, ↓dN_nil, ↓dN_c, ↓oZ_addI, ↓oZ_addS, ↓oZ_addT, ↓oZ_addL, ↓oZ_sub, ↓oZ_mul, ↓oZ_mulT, ↓oZ_mulL, ↓oZ_fdiv, ↓oZ_mod, ↓oZ_pow, ↓oZ_eqI, ↓oZ_eqS, ↓oZ_neS, ↓oZ_neI, ↓oZ_lt, ↓oZ_le, ↓oZ_gt, ↓oZ_ge, ↓oZ_ixL, ↓oZ_ixT, ↓aI_0, ↓aI_1, ↓aI_2, ↓nI_0, ↓nI_1, ↓lS_0, ↓lS_s, ↓aI_int, ↓aI_str, ↓aI_row, ↓aI_b2, ↓aI_i1, ↓aI_i2, ↓aI_i3, ↓aI_i4, ↓aI_i5, ↓aI_i6, ↓oZ_abyz, ↓oZ_az, ↓cZ_lenLm, ↓cZ_lenTm, ↓cZ_lenP, ↓oZ_ixP, ↓sD_P, ↓cZ_lstP, ↓cZ_abs, ↓cZ_int, ↓cZ_intB, ↓cZ_tup, ↓cZ_lstL, ↓cZ_lstT, ↓cZ_all, ↓cZ_any, ↓cZ_max2, ↓cZ_min2, ↓cZ_sum, ↓cZ_sorted, ↓xE_int, ↓xE_bl, ↓xE_str, ↓xE_non, ↓xE_var, ↓xE_op, ↓xE_neg, ↓xE_nt, ↓xE_an, ↓xE_or, ↓xE_ch, ↓xE_isN, ↓xE_notN, ↓xE_ife, ↓xE_tup, ↓xE_lst, ↓xE_sl, ↓sl1_T, ↓sl1_L, ↓xE_cb, ↓xE_isa, ↓xE_call, ↓xE_callS, ↓xE_lc, ↓xE_lc2, ↓xE_callL, ↓rvA_d, ↓tw2_t, ↓sN_0, ↓sN_s, ↓xE_lrg, ↓xE_trg, ↓xE_pop, ↓xE_idxL, ↓sT_s, ↓xE_idxT, ↓xE_dget, ↓xE_din, ↓xE_dnin, ↓xE_dset, ↓xA_nil, ↓xA_cons, ↓xT_te, ↓xT_tb, ↓xT_nt, ↓xT_an, ↓xT_or, ↓xT_yes, ↓xT_lend, ↓xP_no, ↓xP_at, ↓xI_rng1, ↓xI_rng2, ↓xI_u, ↓xI_en, ↓xG_nm, ↓xG_tup, ↓xGs_nil, ↓xGs_cons, ↓sV_d, ↓sV_n, ↓sV_w, ↓rV_d, ↓rV_n, ↓rV_w, ↓rV_o, ↓xS_set, ↓xS_asg, ↓xS_seti, ↓xS_app, ↓xS_newD, ↓xS_dput, ↓xS_drop, ↓xS_ret, ↓xS_retN, ↓xS_iff, ↓xS_for, ↓xS_wh, ↓xS_brk, ↓xS_cont, ↓xS_nx, ↓xS_seq, ↓xS_fz, ↓fzK_l, ↓fzK_d, ↓fzK_n, ↓fzK_D, ↓kS_nx, ↓kS_rt, ↓kS_bk, ↓kS_ct, ↓out1_rt, ↓out2_rt, ↓u_b_l_stream_5, ↓fK_s e2]
    simp only [e, show ((10 : Int) ^ (18 : Int).toNat) = 10 ^ 18 from rfl, q, if_false, ch]
theorem for_ex {f : D → Rho → Option Out} (P : Nat → Rho → Prop) : ∀ (l : List D) (i0 : Nat) (ρ : Rho), P i0 ρ → (∀ i ρ1, i < l.length → P (i0 + i) ρ1 → ∃ ρ2, f (nthD l i) ρ1 = some (.nx ρ2) ∧ P (i0 + i + 1) ρ2) → ∃ ρ', forGo f l ρ = some (.nx ρ') ∧ P (i0 + l.length) ρ'
  | [], i0, ρ, h, _ => ⟨ρ, rfl, h⟩
  | x :: xs, i0, ρ, h, st => by
    obtain ⟨ρ2, h1, h2⟩ := st 0 ρ (by simp) h
    obtain ⟨ρ', h3, h4⟩ := for_ex P xs (i0 + 1) ρ2 h2 fun i ρ1 hi hp => by
      have := st (i + 1) ρ1 (by simpa using hi) (by rw [show i0 + (i + 1) = i0 + 1 + i by omega]; exact hp)
      rw [show i0 + (i + 1) + 1 = i0 + 1 + i + 1 by omega] at this
      exact this
    refine ⟨ρ', ?_, by rw [List.length_cons, show i0 + (xs.length + 1) = i0 + 1 + xs.length by omega]; exact h4⟩
    show (f x ρ).bind _ = _
    rw [show f x ρ = _ from h1]
    exact h3
theorem for_ex0 {f : D → Rho → Option Out} (P : Nat → Rho → Prop) {l : List D} {ρ : Rho} (h : P 0 ρ) (st : ∀ i ρ1, i < l.length → P i ρ1 → ∃ ρ2, f (nthD l i) ρ1 = some (.nx ρ2) ∧ P (i + 1) ρ2) : ∃ ρ', forGo f l ρ = some (.nx ρ') ∧ P l.length ρ' := by
  have := for_ex P l 0 ρ h fun i ρ1 hi hp => by
    rw [Nat.zero_add] at hp ⊢
    exact st i ρ1 hi hp
  rw [Nat.zero_add] at this
  exact this
theorem stream_eq {ns : List Int} (h : ns.length ≤ 63) : f_l_stream [.list (ns.map .int)] = some (.new (.lst ((streamOf ns).map .int))) := by
  have cut : cutD (ns.map PyData.int) none (some 63) = ns.map .int := cut_to (n := 63) (by simpa using h)
  obtain ⟨ρ', h1, f3, f4, f5, f2, rfl⟩ := for_ex0 (f := trn [] (.nm 2) b_l_stream_5) (fun i ρ => ∃ e2 e3 e4 e5, ρ = [.dat (.list (ns.map .int)), .own (.lst ((flat (ns.take i)).map .int)), e2, e3, e4, e5]) (l := ns.map .int) (ρ := [.dat (.list (ns.map .int)), .own (.lst []), .no, .no, .no, .no]) ⟨.no, .no, .no, .no, by simp [flat]⟩ (fun i ρ1 hi ⟨e2, e3, e4, e5, e⟩ => by
    rw [List.length_map] at hi
    subst e
    rw [nthD_ints hi]
    have hl := flat_len (ns.take i)
    rw [List.length_take] at hl
    obtain ⟨g3, g4, g5, e⟩ := stream3 (s := .dat (.list (ns.map .int))) (acc := flat (ns.take i)) (cell := ns.getD i 0) (e2 := e2) (e3 := e3) (e4 := e4) (e5 := e5) (by omega)
    exact ⟨_, e, .dat (.int (ns.getD i 0)), g3, g4, g5, by rw [flat_take hi]⟩)
  rw [List.length_map, List.take_length] at h1
  rw [x_l_stream]
  by_cases q : flat ns = []
  · rw [q] at h1
    simp (config := { implicitDefEqProofs := false }) (disch := walk_at "side") only [↓reduceIte, decide_eq_true_eq, decide_true, decide_false, Bool.not_true, Bool.not_false, Bool.false_eq_true, Int.reduceEq, Int.reduceLT, Int.reduceLE, Int.reduceNeg, Int.reduceToNat, ↓okI, ↓okI2, ↓aV_d, ↓aV_o, ↓aV_n, ↓aV_w, ↓dV_d, ↓dV_n, ↓dV_w, ↓gE_0, ↓gE_s, ↓eL_l, ↓eD_l, ↓eV_d, ↓eV_l, ↓nA_d, ↓nA_o, ↓iD_i, ↓bD_b, ↓kD_i, ↓kD_s, ↓zD_d, ↓vZ_d, ↓vZ_n, ↓sR_0, ↓sR_s, ↓sK_n, ↓sK_0, ↓lD_l, ↓sD_l, ↓sD_t, ↓tD_t, ↓dA_nil, ↓dA_d, ↓dN_nil, ↓dN_c, ↓oZ_addI, ↓oZ_addS, ↓oZ_addT, ↓oZ_addL, ↓oZ_sub, ↓oZ_mul, ↓oZ_mulT, ↓oZ_mulL, ↓oZ_fdiv, ↓oZ_mod, ↓oZ_pow, ↓oZ_eqI, ↓oZ_eqS, ↓oZ_neS, ↓oZ_neI, ↓oZ_lt, ↓oZ_le, ↓oZ_gt, ↓oZ_ge, ↓oZ_ixL, ↓oZ_ixT, ↓aI_0, ↓aI_1, ↓aI_2, ↓nI_0, ↓nI_1, ↓lS_0, ↓lS_s, ↓aI_int, ↓aI_str, ↓aI_row, ↓aI_b2, ↓aI_i1, ↓aI_i2, ↓aI_i3, ↓aI_i4, ↓aI_i5, ↓aI_i6, ↓oZ_abyz, ↓oZ_az, ↓cZ_lenLm, ↓cZ_lenTm, ↓cZ_lenP, ↓oZ_ixP, ↓sD_P, ↓cZ_lstP, ↓cZ_abs, ↓cZ_int, ↓cZ_intB, ↓cZ_tup, ↓cZ_lstL, ↓cZ_lstT, ↓cZ_all, ↓cZ_any, ↓cZ_max2, ↓cZ_min2, ↓cZ_sum, ↓cZ_sorted, ↓xE_int, ↓xE_bl, ↓xE_str, ↓xE_non, ↓xE_var, ↓xE_op, ↓xE_neg, ↓xE_nt, ↓xE_an, ↓xE_or, ↓xE_ch, ↓xE_isN, ↓xE_notN, ↓xE_ife, ↓xE_tup, ↓xE_lst, ↓xE_sl, ↓sl1_T, ↓sl1_L, ↓xE_cb, ↓xE_isa, ↓xE_call, ↓xE_callS, ↓xE_lc, ↓xE_lc2, ↓xE_callL, ↓rvA_d, ↓tw2_t, ↓sN_0, ↓sN_s, ↓xE_lrg, ↓xE_trg, ↓xE_pop, ↓xE_idxL, ↓sT_s, ↓xE_idxT, ↓xE_dget, ↓xE_din, ↓xE_dnin, ↓xE_dset, ↓xA_nil, ↓xA_cons, ↓xT_te, ↓xT_tb, ↓xT_nt, ↓xT_an, ↓xT_or, ↓xT_yes, ↓xT_lend, ↓xP_no, ↓xP_at, ↓xI_rng1, ↓xI_rng2, ↓xI_u, ↓xI_en, ↓xG_nm, ↓xG_tup, ↓xGs_nil, ↓xGs_cons, ↓sV_d, ↓sV_n, ↓sV_w, ↓rV_d, ↓rV_n, ↓rV_w, ↓rV_o, ↓xS_set, ↓xS_asg, ↓xS_seti, ↓xS_app, ↓xS_newD, ↓xS_dput, ↓xS_drop, ↓xS_ret, ↓xS_retN, ↓xS_iff, ↓xS_for, ↓xS_wh, ↓xS_brk, ↓xS_cont, ↓xS_nx, ↓xS_seq, ↓xS_fz, ↓fzK_l, ↓fzK_d, ↓fzK_n, ↓fzK_D, ↓kS_nx, ↓kS_rt, ↓kS_bk, ↓kS_ct, ↓out1_rt, ↓out2_rt, ↓u_c_l_stream, cut, ↓fK_s h1]
    simp [streamOf, q]
  · have hn : (flat ns).length ≠ 0 := fun z => q (List.length_eq_zero_iff.mp z)
    simp (config := { implicitDefEqProofs := false }) (disch := walk_at "side") only [↓reduceIte, decide_eq_true_eq, decide_true, decide_false, Bool.not_true, Bool.not_false, Bool.false_eq_true, Int.reduceEq, Int.reduceLT, Int.reduceLE, Int.reduceNeg, Int.reduceToNat, ↓okI, ↓okI2, ↓aV_d, ↓aV_o, ↓aV_n, ↓aV_w, ↓dV_d, ↓dV_n, ↓dV_w, ↓gE_0, ↓gE_s, ↓eL_l, ↓eD_l, ↓eV_d, ↓eV_l, ↓nA_d, ↓nA_o, ↓iD_i, ↓bD_b, ↓kD_i, ↓kD_s, ↓zD_d, ↓vZ_d, ↓vZ_n, ↓sR_0, ↓sR_s, ↓sK_n, ↓sK_0, ↓lD_l, ↓sD_l, ↓sD_t, ↓tD_t, ↓dA_nil, ↓dA_d, ↓dN_nil, ↓dN_c, ↓oZ_addI, ↓oZ_addS, ↓oZ_addT, ↓oZ_addL, ↓oZ_sub, ↓oZ_mul, ↓oZ_mulT, ↓oZ_mulL, ↓oZ_fdiv, ↓oZ_mod, ↓oZ_pow, ↓oZ_eqI, ↓oZ_eqS, ↓oZ_neS, ↓oZ_neI, ↓oZ_lt, ↓oZ_le, ↓oZ_gt, ↓oZ_ge, ↓oZ_ixL, ↓oZ_ixT, ↓aI_0, ↓aI_1, ↓aI_2, ↓nI_0, ↓nI_1, ↓lS_0, ↓lS_s, ↓aI_int, ↓aI_str, ↓aI_row, ↓aI_b2, ↓aI_i1, ↓aI_i2, ↓aI_i3, ↓aI_i4, ↓aI_i5, ↓aI_i6, ↓oZ_abyz, ↓oZ_az, ↓cZ_lenLm, ↓cZ_lenTm, ↓cZ_lenP, ↓oZ_ixP, ↓sD_P, ↓cZ_lstP, ↓cZ_abs, ↓cZ_int, ↓cZ_intB, ↓cZ_tup, ↓cZ_lstL, ↓cZ_lstT, ↓cZ_all, ↓cZ_any, ↓cZ_max2, ↓cZ_min2, ↓cZ_sum, ↓cZ_sorted, ↓xE_int, ↓xE_bl, ↓xE_str, ↓xE_non, ↓xE_var, ↓xE_op, ↓xE_neg, ↓xE_nt, ↓xE_an, ↓xE_or, ↓xE_ch, ↓xE_isN, ↓xE_notN, ↓xE_ife, ↓xE_tup, ↓xE_lst, ↓xE_sl, ↓sl1_T, ↓sl1_L, ↓xE_cb, ↓xE_isa, ↓xE_call, ↓xE_callS, ↓xE_lc, ↓xE_lc2, ↓xE_callL, ↓rvA_d, ↓tw2_t, ↓sN_0, ↓sN_s, ↓xE_lrg, ↓xE_trg, ↓xE_pop, ↓xE_idxL, ↓sT_s, ↓xE_idxT, ↓xE_dget, ↓xE_din, ↓xE_dnin, ↓xE_dset, ↓xA_nil, ↓xA_cons, ↓xT_te, ↓xT_tb, ↓xT_nt, ↓xT_an, ↓xT_or, ↓xT_yes, ↓xT_lend, ↓xP_no, ↓xP_at, ↓xI_rng1, ↓xI_rng2, ↓xI_u, ↓xI_en, ↓xG_nm, ↓xG_tup, ↓xGs_nil, ↓xGs_cons, ↓sV_d, ↓sV_n, ↓sV_w, ↓rV_d, ↓rV_n, ↓rV_w, ↓rV_o, ↓xS_set, ↓xS_asg, ↓xS_seti, ↓xS_app, ↓xS_newD, ↓xS_dput, ↓xS_drop, ↓xS_ret, ↓xS_retN, ↓xS_iff, ↓xS_for, ↓xS_wh, ↓xS_brk, ↓xS_cont, ↓xS_nx, ↓xS_seq, ↓xS_fz, ↓fzK_l, ↓fzK_d, ↓fzK_n, ↓fzK_D, ↓kS_nx, ↓kS_rt, ↓kS_bk, ↓kS_ct, ↓out1_rt, ↓out2_rt, ↓u_c_l_stream, cut, ↓fK_s h1]
    simp [streamOf, q]
end CS
namespace CS
open PySem PySem.Spec PyProof.Rows L2 DL EV
def wlen (N : List Int) (k : Int) : Int := [1, 2, 1 + nxt N k 8].getD (nxt N (k + 1) 3).toNat 0
def sign (i : Int) : Str := ⟨#[("abyz" : Str).cps.toList.getD i.toNat 0]⟩
def alpha (i : Nat) : Str := ⟨#[("abcdefghijklmnopqrstuvwxyz" : Str).cps.toList.getD i 0]⟩
def wtext (N : List Int) (k : Int) : Nat → Str
  | 0 => ""
  | n + 1 => wtext N k n ++ sign (nxt N (k + (n : Nat)) 4)
def wordOf (N : List Int) (k : Int) (taken : List Str) : Str := if (taken.any fun z => z == wtext N (k + 2) (wlen N k).toNat) then "c" ++ alpha taken.length else wtext N (k + 2) (wlen N k).toNat
/-- the letters so far, and where the draws stand -/
def lettersOf (N : List Int) (k : Int) : Nat → List Str × Int
  | 0 => ([], k)
  | n + 1 => ((lettersOf N k n).1 ++ [wordOf N (lettersOf N k n).2 (lettersOf N k n).1], (lettersOf N k n).2 + 2 + wlen N (lettersOf N k n).2)
def drawsOf (N : List Int) (k many : Int) (n : Nat) : List Int := (List.range n).map fun i => nxt N (k + (i : Nat)) many
def okMap (n : Nat) (x : List Int) : Prop := x.length = n ∧ ∀ i ∈ x, 0 ≤ i ∧ i < (n : Nat)
theorem wlen_bnd (N : List Int) (k : Int) : 1 ≤ wlen N k ∧ wlen N k ≤ 8 := by
  have a0 := nxt_lo (N := N) (k := k) (many := 8) (by decide)
  have a1 := nxt_hi (N := N) (k := k) (many := 8) (by decide)
  have b0 := nxt_lo (N := N) (k := k + 1) (many := 3) (by decide)
  have b1 := nxt_hi (N := N) (k := k + 1) (many := 3) (by decide)
  unfold wlen
  generalize nxt N (k + 1) 3 = v at b0 b1
  have : v = 0 ∨ v = 1 ∨ v = 2 := by omega
  rcases this with rfl | rfl | rfl
  · show (1 : Int) ≤ 1 ∧ (1 : Int) ≤ 8
    omega
  · show (1 : Int) ≤ 2 ∧ (2 : Int) ≤ 8
    omega
  · show 1 ≤ 1 + nxt N k 8 ∧ 1 + nxt N k 8 ≤ 8
    omega
theorem len_app (a b : Str) : (a ++ b).length = a.length + b.length := by
  show (a.cps ++ b.cps).size = a.cps.size + b.cps.size
  exact Array.size_append
theorem wtext_len (N : List Int) (k : Int) : ∀ n, (wtext N k n).length = n
  | 0 => rfl
  | n + 1 => by
    show (wtext N k n ++ sign _).length = _
    rw [len_app, wtext_len N k n]
    rfl
theorem letters_len (N : List Int) (k : Int) : ∀ n, (lettersOf N k n).1.length = n
  | 0 => rfl
  | n + 1 => by
    show ((lettersOf N k n).1 ++ [_]).length = _
    rw [List.length_append, letters_len N k n]
    rfl
theorem letters_bnd (N : List Int) (k : Int) : ∀ n : Nat, k ≤ (lettersOf N k n).2 ∧ (lettersOf N k n).2 ≤ k + 10 * (n : Int)
  | 0 => ⟨Int.le_refl _, by show k ≤ _; omega⟩
  | n + 1 => by
    obtain ⟨h1, h2⟩ := letters_bnd N k n
    obtain ⟨w0, w1⟩ := wlen_bnd N (lettersOf N k n).2
    show k ≤ (lettersOf N k n).2 + 2 + wlen N (lettersOf N k n).2 ∧ (lettersOf N k n).2 + 2 + wlen N (lettersOf N k n).2 ≤ k + 10 * ((n + 1 : Nat) : Int)
    omega
open DL
open DL
open DL
end CS
namespace CS
open PySem PySem.Spec PyProof.Rows L2 DL EV
local macro_rules | `(tactic| walk_at "side") => `(tactic| first | omega | (simp only [List.length_cons, List.length_nil, List.length_map, List.length_append, List.length_range, PySem.sizeLine_eq]; omega) | assumption | (simp; done))
theorem nextK {β : Type} {N : List Int} {k many : Int} {kv : Vl → List D → Option β} (G : Good N) (h0 : 0 ≤ k) (h1 : k < KMax) (hm : 0 < many) : cKS f_l_next (stAt N k) [.int many] kv = kv (.d (.int (nxt N k many))) (stAt N (k + 1)) := cKS_s (next_eq G h0 h1 hm)
end CS
namespace CS
open PySem PySem.Spec PyProof.Rows L2 DL EV
local macro_rules | `(tactic| walk_at "side") => `(tactic| first | omega | (simp only [List.length_cons, List.length_nil, List.length_map, List.length_append, List.length_range, PySem.sizeLine_eq]; omega) | assumption | (simp; done))
theorem all_getD {p : Nat → Bool} {l : List Nat} {d : Nat} {i : Nat} (h : l.all p = true) (hd : p d = true) : p (l.getD i d) = true := by
  rw [List.getD_eq_getElem?_getD]
  cases e : l[i]? with
  | none => exact hd
  | some x => exact List.all_eq_true.mp h x (List.mem_of_getElem? e)
theorem sign_ok (i : Int) : PyData.strOk (sign i) = true := by
  have := all_getD (p := fun c => c < 0x110000) (l := ("abyz" : Str).cps.toList) (d := 0) (i := i.toNat) (by decide) (by decide)
  unfold PyData.strOk sign
  simpa using this
theorem alpha_ok (i : Nat) : PyData.strOk (alpha i) = true := by
  have := all_getD (p := fun c => c < 0x110000) (l := ("abcdefghijklmnopqrstuvwxyz" : Str).cps.toList) (d := 0) (i := i) (by decide) (by decide)
  unfold PyData.strOk alpha
  simpa using this
theorem app_ok {a b : Str} (ha : PyData.strOk a = true) (hb : PyData.strOk b = true) : PyData.strOk (a ++ b) = true := by
  unfold PyData.strOk at *
  show (a.cps ++ b.cps).all _ = true
  rw [Array.all_append, ha, hb]; rfl
theorem wtext_ok (N : List Int) (k : Int) : ∀ n, PyData.strOk (wtext N k n) = true
  | 0 => (by decide +kernel : PyData.strOk ("" : Str) = true)
  | n + 1 => app_ok (wtext_ok N k n) (sign_ok _)
theorem wordOf_ok (N : List Int) (k : Int) (taken : List Str) : PyData.strOk (wordOf N k taken) = true := by
  unfold wordOf
  split
  · exact app_ok (by decide +kernel) (alpha_ok _)
  · exact wtext_ok _ _ _
theorem letters_ok (N : List Int) (k : Int) : ∀ n, ∀ x ∈ (lettersOf N k n).1, PyData.strOk x = true
  | 0, x, m => nomatch m
  | n + 1, x, m => by
    rcases List.mem_append.mp m with m | m
    · exact letters_ok N k n x m
    · rw [List.mem_singleton.mp m]; exact wordOf_ok _ _ _
theorem wordOf_len (N : List Int) (k : Int) (taken : List Str) : (wordOf N k taken).length ≤ 8 := by
  unfold wordOf
  split
  · rw [len_app]
    show 1 + 1 ≤ 8
    omega
  · rw [wtext_len]
    have := wlen_bnd N k
    omega
theorem letters_len8 (N : List Int) (k : Int) : ∀ n, ∀ x ∈ (lettersOf N k n).1, x.length ≤ 8
  | 0, x, m => nomatch m
  | n + 1, x, m => by
    rcases List.mem_append.mp m with m | m
    · exact letters_len8 N k n x m
    · rw [List.mem_singleton.mp m]; exact wordOf_len _ _ _
theorem canLayStrs : ∀ {E : List Str}, (∀ x ∈ E, PyData.strOk x = true) → PyData.canLayAll0 (E.map PyData.str) = true
  | [], _ => rfl
  | x :: E, h => by simp [PyData.canLayAll0, PyData.canLay0, h x List.mem_cons_self, canLayStrs fun y m => h y (List.mem_cons_of_mem _ m)]
theorem depthStrs : ∀ E : List Str, PyData.depthAll (E.map PyData.str) = 0
  | [] => rfl
  | x :: E => by rw [List.map_cons, PyData.depthAll, depthStrs E]; rfl
theorem shStrs {l : List Str} (h : ∀ x ∈ l, PyData.strOk x = true) : SeqAt.shaped (.list (l.map .str)) = true := by
  unfold SeqAt.shaped
  simp [PyData.canLay0, canLayStrs h, PyData.depth, depthStrs]
theorem shS {x : Str} (h : PyData.strOk x = true) : SeqAt.shaped (.str x) = true := by
  unfold SeqAt.shaped
  simp [PyData.canLay0, h, PyData.depth]
theorem word_eqL {N : List Int} {k : Int} {taken : List Str} (G : Good N) (h0 : 0 ≤ k) (h1 : k + 20 ≤ KMax) (ht : taken.length < 26) (ok : ∀ x ∈ taken, PyData.strOk x = true) : f_l_word (stAt N k) [.list (taken.map .str)] = some (.dat (.str (wordOf N k taken)), stAt N (k + 2 + wlen N k)) := by
  have hK : KMax = 1000000000 := rfl
  obtain ⟨w0, w1⟩ := wlen_bnd N k
  have n0 := nxt_lo (N := N) (k := k + 1) (many := 3) (by omega)
  have n1 := nxt_hi (N := N) (k := k + 1) (many := 3) (by omega)
  have wl : wlen N k = [1, 2, 1 + nxt N k 8].getD (nxt N (k + 1) 3).toNat 0 := rfl
  have L : forGo (trn [0] (.nm 3) b_l_word_1) (rgD 0 (wlen N k).toNat) [.own (.lst (stAt N (k + 1 + 1))), .dat (.list (taken.map .str)), .dat (.str ""), .no] = some (.nx [.own (.lst (stAt N (k + 2 + wlen N k))), .dat (.list (taken.map .str)), .dat (.str (wtext N (k + 2) (wlen N k).toNat)), .dat (.int (wlen N k - 1))]) := by
    refine for_inv (fun i => [.own (.lst (stAt N (k + 2 + (i : Nat)))), .dat (.list (taken.map .str)), .dat (.str (wtext N (k + 2) i)), if i = 0 then .no else .dat (.int ((i : Int) - 1))]) ?_ ?_ fun i hi => ?_
    · rw [show k + 1 + 1 = k + 2 by omega]; simp [wtext]
    · rw [rgD_len, if_neg (by omega), show (((wlen N k).toNat : Nat) : Int) = wlen N k by omega]
    · rw [rgD_len] at hi
      rw [rgD_at hi, trn_x]
      have a0 := nxt_lo (N := N) (k := k + 2 + (i : Nat)) (many := 4) (by omega)
      have a1 := nxt_hi (N := N) (k := k + 2 + (i : Nat)) (many := 4) (by omega)
      have hz : (wtext N (k + 2) i).length + (sgn "abyz" (nxt N (k + 2 + (i : Nat)) 4).toNat).length ≤ sizeLine := by
        rw [wtext_len, sgn_len, sizeLine_eq]; omega
      simp (config := { implicitDefEqProofs := false }) (disch := walk_at "side") only [↓reduceIte, decide_eq_true_eq, decide_true, decide_false, Bool.not_true, Bool.not_false, Bool.false_eq_true, Int.reduceEq, Int.reduceLT, Int.reduceLE, Int.reduceNeg, Int.reduceToNat, ↓okI, ↓okI2, ↓aV_d, ↓aV_o, ↓aV_n, ↓aV_w, ↓dV_d, ↓dV_wD, ↓aV_wD, ↓dO_d, ↓kV_w, ↓xE_dinD, ↓xE_dninD, ↓xE_dgetD, ↓xE_fnv, ↓xE_callF, ↓xE_callE, ↓xE_isaT, ↓xE_dspb, ↓xI_ukd, ↓xS_retD, ↓xS_fzD, ↓fzKD_D, ↓fzKD_d, ↓dV_n, ↓dV_w, ↓gE_0, ↓gE_s, ↓eL_l, ↓eD_l, ↓eV_d, ↓eV_l, ↓nA_d, ↓nA_o, ↓iD_i, ↓bD_b, ↓kD_i, ↓kD_s, ↓zD_d, ↓vZ_d, ↓vZ_n, ↓sR_0, ↓sR_s, ↓sK_n, ↓sK_0, ↓lD_l, ↓sD_l, ↓sD_t, ↓tD_t, ↓dA_nil, ↓dA_d, ↓dN_nil, ↓dN_c, ↓oZ_addI, ↓oZ_addS, ↓oZ_addT, ↓oZ_addL, ↓oZ_sub, ↓oZ_mul, ↓oZ_mulT, ↓oZ_mulL, ↓oZ_fdiv, ↓oZ_mod, ↓oZ_pow, ↓oZ_eqI, ↓oZ_eqS, ↓oZ_neS, ↓oZ_neI, ↓oZ_lt, ↓oZ_le, ↓oZ_gt, ↓oZ_ge, ↓oZ_ixL, ↓oZ_ixT, ↓aI_0, ↓aI_1, ↓aI_2, ↓nI_0, ↓nI_1, ↓lS_0, ↓lS_s, ↓aI_int, ↓aI_str, ↓aI_row, ↓aI_b2, ↓aI_i1, ↓aI_i2, ↓aI_i3, ↓aI_i4, ↓aI_i5, ↓aI_i6, ↓oZ_abyz, ↓oZ_az, ↓cZ_lenLm, ↓cZ_lenTm, ↓cZ_lenP, ↓oZ_ixP, ↓sD_P, ↓cZ_lstP, ↓cZ_abs, ↓cZ_int, ↓cZ_intB, ↓cZ_tup, ↓cZ_lstL, ↓cZ_lstT, ↓cZ_all, ↓cZ_any, ↓cZ_max2, ↓cZ_min2, ↓cZ_sum, ↓cZ_sorted, ↓xE_int, ↓xE_bl, ↓xE_str, ↓xE_non, ↓xE_var, ↓xE_op, ↓xE_neg, ↓xE_nt, ↓xE_an, ↓xE_or, ↓xE_ch, ↓xE_isN, ↓xE_notN, ↓xE_ife, ↓xE_tup, ↓xE_lst, ↓xE_sl, ↓sl1_T, ↓sl1_L, ↓xE_cb, ↓xE_isa, ↓xE_call, ↓xE_callX, ↓xE_lget, ↓xE_srs, xE_revT, ↓xE_revL, ↓xE_sw, ↓s2D_s, ↓xB_sif, ↓xE_dget2, ↓xT_tl, ↓xI_ky, ↓xS_lk0, ↓xR_x, ↓xR_call, ↓xR_lst, ↓xR_e, ↓xB_ret, ↓xB_iff, ↓xS_tryK, ↓xS_never, ↓xS_mv0, ↓xS_aug, ↓eF_l, noF_nil, noF_dat, noF_no, noF_lst, noF_dK, ↓sK_j, ↓xE_callS, ↓xE_lc, ↓xE_lc2, ↓xE_callL, ↓rvA_d, ↓tw2_t, ↓sN_0, ↓sN_s, ↓xE_lrg, ↓xE_trg, ↓xE_pop, ↓xE_idxL, ↓sT_s, ↓xE_idxT, ↓xE_dget, ↓xE_din, ↓xE_dnin, ↓xE_dset, ↓xE_dspV, ↓xE_dspC, ↓xE_dspM, ↓tE_d, ↓xI_rng3, ↓xA_nil, ↓xA_cons, ↓xT_te, ↓xT_tb, ↓xT_nt, ↓xT_an, ↓xT_or, ↓xT_yes, ↓xT_lend, ↓xP_no, ↓xP_at, ↓xI_rng1, ↓xI_rng2, ↓xI_u, ↓xI_en, ↓xI_enl, ↓xG_nm, ↓xG_tup, ↓xGs_nil, ↓xGs_cons, ↓sV_d, ↓sV_n, ↓sV_w, ↓rV_d, ↓rV_n, ↓rV_w, ↓rV_o, ↓xS_set, ↓xS_asg, ↓xS_seti, ↓xS_app, ↓xS_newD, ↓xS_dput, ↓xS_drop, ↓xS_dropX, ↓xS_raise, ↓xS_tryC, ↓xS_ret, ↓xS_retN, ↓xS_iff, ↓xS_for, ↓xS_wh, ↓xS_brk, ↓xS_cont, ↓xS_nx, ↓xS_seq, ↓xS_fz, ↓fzK_l, ↓fzK_d, ↓fzK_n, ↓fzK_D, ↓kS_nx, ↓kS_rt, ↓kS_bk, ↓kS_ct, ↓out1_rt, ↓out2_rt, ↓xE_allIn, ↓xE_inC, ↓xE_isB, ↓strD_s, ↓u_b_l_word_1, ↓nextK]
      rw [show k + 2 + (i : Int) + 1 = k + 2 + ((i + 1 : Nat) : Int) by omega, if_neg (by omega), show ((i + 1 : Nat) : Int) - 1 = i by omega]
      simp [wtext, sign, sgn]
  rw [x_l_word]
  have fl : SeqAt.shaped (.str (wtext N (k + 2) (wlen N k).toNat)) = true := shS (wtext_ok _ _ _)
  have fs : SeqAt.shaped (.list (taken.map PyData.str)) = true := shStrs ok
  have hc : ("c" : Str).length + (sgn "abcdefghijklmnopqrstuvwxyz" ((taken.length : Nat) : Int).toNat).length ≤ sizeLine := by rw [sgn_len, sizeLine_eq]; decide
  have wo : wordOf N k taken = if wtext N (k + 2) (wlen N k).toNat ∈ taken then "c" ++ alpha taken.length else wtext N (k + 2) (wlen N k).toNat := by
    unfold wordOf
    by_cases q : wtext N (k + 2) (wlen N k).toNat ∈ taken
    · rw [if_pos q, if_pos (List.any_eq_true.mpr ⟨_, q, by simp⟩)]
    · rw [if_neg q, if_neg]
      intro z
      obtain ⟨x, m, e⟩ := List.any_eq_true.mp z
      exact q ((eq_of_beq e) ▸ m)
  rw [wo]
  simp (config := { implicitDefEqProofs := false }) (disch := walk_at "side") only [↓reduceIte, decide_eq_true_eq, decide_true, decide_false, Bool.not_true, Bool.not_false, Bool.false_eq_true, Int.reduceEq, Int.reduceLT, Int.reduceLE, Int.reduceNeg, Int.reduceToNat, ↓okI, ↓okI2, ↓aV_d, ↓aV_o, ↓aV_n, ↓aV_w, ↓dV_d, ↓dV_wD, ↓aV_wD, ↓dO_d, ↓kV_w, ↓xE_dinD, ↓xE_dninD, ↓xE_dgetD, ↓xE_fnv, ↓xE_callF, ↓xE_callE, ↓xE_isaT, ↓xE_dspb, ↓xI_ukd, ↓xS_retD, ↓xS_fzD, ↓fzKD_D, ↓fzKD_d, ↓dV_n, ↓dV_w, ↓gE_0, ↓gE_s, ↓eL_l, ↓eD_l, ↓eV_d, ↓eV_l, ↓nA_d, ↓nA_o, ↓iD_i, ↓bD_b, ↓kD_i, ↓kD_s, ↓zD_d, ↓vZ_d, ↓vZ_n, ↓sR_0, ↓sR_s, ↓sK_n, ↓sK_0, ↓lD_l, ↓sD_l, ↓sD_t, ↓tD_t, ↓dA_nil, ↓dA_d, ↓dN_nil, ↓dN_c, ↓oZ_addI, ↓oZ_addS, ↓oZ_addT, ↓oZ_addL, ↓oZ_sub, ↓oZ_mul, ↓oZ_mulT, ↓oZ_mulL, ↓oZ_fdiv, ↓oZ_mod, ↓oZ_pow, ↓oZ_eqI, ↓oZ_eqS, ↓oZ_neS, ↓oZ_neI, ↓oZ_lt, ↓oZ_le, ↓oZ_gt, ↓oZ_ge, ↓oZ_ixL, ↓oZ_ixT, ↓aI_0, ↓aI_1, ↓aI_2, ↓nI_0, ↓nI_1, ↓lS_0, ↓lS_s, ↓aI_int, ↓aI_str, ↓aI_row, ↓aI_b2, ↓aI_i1, ↓aI_i2, ↓aI_i3, ↓aI_i4, ↓aI_i5, ↓aI_i6, ↓oZ_abyz, ↓oZ_az, ↓cZ_lenLm, ↓cZ_lenTm, ↓cZ_lenP, ↓oZ_ixP, ↓sD_P, ↓cZ_lstP, ↓cZ_abs, ↓cZ_int, ↓cZ_intB, ↓cZ_tup, ↓cZ_lstL, ↓cZ_lstT, ↓cZ_all, ↓cZ_any, ↓cZ_max2, ↓cZ_min2, ↓cZ_sum, ↓cZ_sorted, ↓xE_int, ↓xE_bl, ↓xE_str, ↓xE_non, ↓xE_var, ↓xE_op, ↓xE_neg, ↓xE_nt, ↓xE_an, ↓xE_or, ↓xE_ch, ↓xE_isN, ↓xE_notN, ↓xE_ife, ↓xE_tup, ↓xE_lst, ↓xE_sl, ↓sl1_T, ↓sl1_L, ↓xE_cb, ↓xE_isa, ↓xE_call, ↓xE_callX, ↓xE_lget, ↓xE_srs, xE_revT, ↓xE_revL, ↓xE_sw, ↓s2D_s, ↓xB_sif, ↓xE_dget2, ↓xT_tl, ↓xI_ky, ↓xS_lk0, ↓xR_x, ↓xR_call, ↓xR_lst, ↓xR_e, ↓xB_ret, ↓xB_iff, ↓xS_tryK, ↓xS_never, ↓xS_mv0, ↓xS_aug, ↓eF_l, noF_nil, noF_dat, noF_no, noF_lst, noF_dK, ↓sK_j, ↓xE_callS, ↓xE_lc, ↓xE_lc2, ↓xE_callL, ↓rvA_d, ↓tw2_t, ↓sN_0, ↓sN_s, ↓xE_lrg, ↓xE_trg, ↓xE_pop, ↓xE_idxL, ↓sT_s, ↓xE_idxT, ↓xE_dget, ↓xE_din, ↓xE_dnin, ↓xE_dset, ↓xE_dspV, ↓xE_dspC, ↓xE_dspM, ↓tE_d, ↓xI_rng3, ↓xA_nil, ↓xA_cons, ↓xT_te, ↓xT_tb, ↓xT_nt, ↓xT_an, ↓xT_or, ↓xT_yes, ↓xT_lend, ↓xP_no, ↓xP_at, ↓xI_rng1, ↓xI_rng2, ↓xI_u, ↓xI_en, ↓xI_enl, ↓xG_nm, ↓xG_tup, ↓xGs_nil, ↓xGs_cons, ↓sV_d, ↓sV_n, ↓sV_w, ↓rV_d, ↓rV_n, ↓rV_w, ↓rV_o, ↓xS_set, ↓xS_asg, ↓xS_seti, ↓xS_app, ↓xS_newD, ↓xS_dput, ↓xS_drop, ↓xS_dropX, ↓xS_raise, ↓xS_tryC, ↓xS_ret, ↓xS_retN, ↓xS_iff, ↓xS_for, ↓xS_wh, ↓xS_brk, ↓xS_cont, ↓xS_nx, ↓xS_seq, ↓xS_fz, ↓fzK_l, ↓fzK_d, ↓fzK_n, ↓fzK_D, ↓kS_nx, ↓kS_rt, ↓kS_bk, ↓kS_ct, ↓out1_rt, ↓out2_rt, ↓xE_allIn, ↓xE_inC, ↓xE_isB, ↓strD_s, ↓u_c_l_word, ↓nextK, ← wl, ↓fK_s L, ↓oZ_inL, inD_strs]
  split <;> rfl
theorem wordKL {β : Type} {N : List Int} {k : Int} {taken : List Str} {kv : Vl → List D → Option β} (G : Good N) (h0 : 0 ≤ k) (h1 : k + 20 ≤ KMax) (ht : taken.length < 26) (ok : ∀ x ∈ taken, PyData.strOk x = true) : cKS f_l_word (stAt N k) [.list (taken.map .str)] kv = kv (.d (.str (wordOf N k taken))) (stAt N (k + 2 + wlen N k)) := cKS_s (word_eqL G h0 h1 ht ok)
theorem apStAt {N : List Int} {k : Int} (G : Good N) : (stAt N k).all apartS = true := by
  have h := G.pos
  cases N with
  | nil => cases h
  | cons x N =>
    have : (N.map PyData.int).all isI = true := by
      rw [List.all_map]
      exact List.all_eq_true.mpr fun _ _ => rfl
    simp [stAt, apartS, this]
theorem isStrs (l : List Str) : (l.map PyData.str).all isS = true := by
  rw [List.all_map]
  exact List.all_eq_true.mpr fun _ _ => rfl
theorem letters2_eq {N : List Int} {k : Int} {many : Nat} (G : Good N) (h0 : 0 ≤ k) (h1 : k + 200 ≤ KMax) (hm : many ≤ 8) : f_l_letters_2 (stAt N k) [.int (many : Nat)] = some (.dat (.tuple ((lettersOf N k many).1.map .str)), stAt N (lettersOf N k many).2) := by
  have hK : KMax = 1000000000 := rfl
  have L : forGo (trn [0] (.nm 3) b_l_letters_2_1) (rgD 0 ((many : Nat) : Int).toNat) [.own (.lst (stAt N k)), .dat (.int (many : Nat)), .own (.lst []), .no] = some (.nx [.own (.lst (stAt N (lettersOf N k many).2)), .dat (.int (many : Nat)), .own (.lst ((lettersOf N k many).1.map .str)), if many = 0 then .no else .dat (.int ((many : Int) - 1))]) := by
    refine for_inv (fun i => [.own (.lst (stAt N (lettersOf N k i).2)), .dat (.int (many : Nat)), .own (.lst ((lettersOf N k i).1.map .str)), if i = 0 then .no else .dat (.int ((i : Int) - 1))]) (by simp [lettersOf]) (by rw [rgD_len]; rfl) fun i hi => ?_
    rw [rgD_len] at hi
    rw [rgD_at hi, trn_x]
    have b := letters_bnd N k i
    have l := letters_len N k i
    have hz : ((lettersOf N k i).1.map PyData.str).length < sizeLine := by rw [List.length_map, l, sizeLine_eq]; omega
    have ok := letters_ok N k i
    have a1 := isStrs (lettersOf N k i).1
    have a2 := apStAt (k := (lettersOf N k i).2 + 2 + wlen N (lettersOf N k i).2) G
    have a3 : atomD (.str (wordOf N (lettersOf N k i).2 (lettersOf N k i).1)) = true := rfl
    have cc : ((0 : Nat) ≠ 2 ∧ ((lettersOf N k i).1.map PyData.str).all isS = true ∧ (stAt N ((lettersOf N k i).2 + 2 + wlen N (lettersOf N k i).2)).all apartS = true ∧ atomD (.str (wordOf N (lettersOf N k i).2 (lettersOf N k i).1)) = true) := ⟨by decide, a1, a2, a3⟩
    simp (config := { implicitDefEqProofs := false }) (disch := walk_at "side") only [↓reduceIte, decide_eq_true_eq, decide_true, decide_false, Bool.not_true, Bool.not_false, Bool.false_eq_true, Int.reduceEq, Int.reduceLT, Int.reduceLE, Int.reduceNeg, Int.reduceToNat, ↓okI, ↓okI2, ↓aV_d, ↓aV_o, ↓aV_n, ↓aV_w, ↓dV_d, ↓dV_wD, ↓aV_wD, ↓dO_d, ↓kV_w, ↓xE_dinD, ↓xE_dninD, ↓xE_dgetD, ↓xE_fnv, ↓xE_callF, ↓xE_callE, ↓xE_isaT, ↓xE_dspb, ↓xI_ukd, ↓xS_retD, ↓xS_fzD, ↓fzKD_D, ↓fzKD_d, ↓dV_n, ↓dV_w, ↓gE_0, ↓gE_s, ↓eL_l, ↓eD_l, ↓eV_d, ↓eV_l, ↓nA_d, ↓nA_o, ↓iD_i, ↓bD_b, ↓kD_i, ↓kD_s, ↓zD_d, ↓vZ_d, ↓vZ_n, ↓sR_0, ↓sR_s, ↓sK_n, ↓sK_0, ↓lD_l, ↓sD_l, ↓sD_t, ↓tD_t, ↓dA_nil, ↓dA_d, ↓dN_nil, ↓dN_c, ↓oZ_addI, ↓oZ_addS, ↓oZ_addT, ↓oZ_addL, ↓oZ_sub, ↓oZ_mul, ↓oZ_mulT, ↓oZ_mulL, ↓oZ_fdiv, ↓oZ_mod, ↓oZ_pow, ↓oZ_eqI, ↓oZ_eqS, ↓oZ_neS, ↓oZ_neI, ↓oZ_lt, ↓oZ_le, ↓oZ_gt, ↓oZ_ge, ↓oZ_ixL, ↓oZ_ixT, ↓aI_0, ↓aI_1, ↓aI_2, ↓nI_0, ↓nI_1, ↓lS_0, ↓lS_s, ↓aI_int, ↓aI_str, ↓aI_row, ↓aI_b2, ↓aI_i1, ↓aI_i2, ↓aI_i3, ↓aI_i4, ↓aI_i5, ↓aI_i6, ↓oZ_abyz, ↓oZ_az, ↓cZ_lenLm, ↓cZ_lenTm, ↓cZ_lenP, ↓oZ_ixP, ↓sD_P, ↓cZ_lstP, ↓cZ_abs, ↓cZ_int, ↓cZ_intB, ↓cZ_tup, ↓cZ_lstL, ↓cZ_lstT, ↓cZ_all, ↓cZ_any, ↓cZ_max2, ↓cZ_min2, ↓cZ_sum, ↓cZ_sorted, ↓xE_int, ↓xE_bl, ↓xE_str, ↓xE_non, ↓xE_var, ↓xE_op, ↓xE_neg, ↓xE_nt, ↓xE_an, ↓xE_or, ↓xE_ch, ↓xE_isN, ↓xE_notN, ↓xE_ife, ↓xE_tup, ↓xE_lst, ↓xE_sl, ↓sl1_T, ↓sl1_L, ↓xE_cb, ↓xE_isa, ↓xE_call, ↓xE_callX, ↓xE_lget, ↓xE_srs, xE_revT, ↓xE_revL, ↓xE_sw, ↓s2D_s, ↓xB_sif, ↓xE_dget2, ↓xT_tl, ↓xI_ky, ↓xS_lk0, ↓xR_x, ↓xR_call, ↓xR_lst, ↓xR_e, ↓xB_ret, ↓xB_iff, ↓xS_tryK, ↓xS_never, ↓xS_mv0, ↓xS_aug, ↓eF_l, noF_nil, noF_dat, noF_no, noF_lst, noF_dK, ↓sK_j, ↓xE_callS, ↓xE_lc, ↓xE_lc2, ↓xE_callL, ↓rvA_d, ↓tw2_t, ↓sN_0, ↓sN_s, ↓xE_lrg, ↓xE_trg, ↓xE_pop, ↓xE_idxL, ↓sT_s, ↓xE_idxT, ↓xE_dget, ↓xE_din, ↓xE_dnin, ↓xE_dset, ↓xE_dspV, ↓xE_dspC, ↓xE_dspM, ↓tE_d, ↓xI_rng3, ↓xA_nil, ↓xA_cons, ↓xT_te, ↓xT_tb, ↓xT_nt, ↓xT_an, ↓xT_or, ↓xT_yes, ↓xT_lend, ↓xP_no, ↓xP_at, ↓xI_rng1, ↓xI_rng2, ↓xI_u, ↓xI_en, ↓xI_enl, ↓xG_nm, ↓xG_tup, ↓xGs_nil, ↓xGs_cons, ↓sV_d, ↓sV_n, ↓sV_w, ↓rV_d, ↓rV_n, ↓rV_w, ↓rV_o, ↓xS_set, ↓xS_asg, ↓xS_seti, ↓xS_app, ↓xS_newD, ↓xS_dput, ↓xS_drop, ↓xS_dropX, ↓xS_raise, ↓xS_tryC, ↓xS_ret, ↓xS_retN, ↓xS_iff, ↓xS_for, ↓xS_wh, ↓xS_brk, ↓xS_cont, ↓xS_nx, ↓xS_seq, ↓xS_fz, ↓fzK_l, ↓fzK_d, ↓fzK_n, ↓fzK_D, ↓kS_nx, ↓kS_rt, ↓kS_bk, ↓kS_ct, ↓out1_rt, ↓out2_rt, ↓xE_allIn, ↓xE_inC, ↓xE_isB, ↓strD_s, ↓u_b_l_letters_2_1, ↓wordKL, ↓if_pos cc]
    rw [if_neg (by omega), show ((i + 1 : Nat) : Int) - 1 = i by omega]
    simp [lettersOf]
  rw [x_l_letters_2]
  simp (config := { implicitDefEqProofs := false }) (disch := walk_at "side") only [↓reduceIte, decide_eq_true_eq, decide_true, decide_false, Bool.not_true, Bool.not_false, Bool.false_eq_true, Int.reduceEq, Int.reduceLT, Int.reduceLE, Int.reduceNeg, Int.reduceToNat, ↓okI, ↓okI2, ↓aV_d, ↓aV_o, ↓aV_n, ↓aV_w, ↓dV_d, ↓dV_wD, ↓aV_wD, ↓dO_d, ↓kV_w, ↓xE_dinD, ↓xE_dninD, ↓xE_dgetD, ↓xE_fnv, ↓xE_callF, ↓xE_callE, ↓xE_isaT, ↓xE_dspb, ↓xI_ukd, ↓xS_retD, ↓xS_fzD, ↓fzKD_D, ↓fzKD_d, ↓dV_n, ↓dV_w, ↓gE_0, ↓gE_s, ↓eL_l, ↓eD_l, ↓eV_d, ↓eV_l, ↓nA_d, ↓nA_o, ↓iD_i, ↓bD_b, ↓kD_i, ↓kD_s, ↓zD_d, ↓vZ_d, ↓vZ_n, ↓sR_0, ↓sR_s, ↓sK_n, ↓sK_0, ↓lD_l, ↓sD_l, ↓sD_t, ↓tD_t, ↓dA_nil, ↓dA_d, ↓dN_nil, ↓dN_c, ↓oZ_addI, ↓oZ_addS, ↓oZ_addT, ↓oZ_addL, ↓oZ_sub, ↓oZ_mul, ↓oZ_mulT, ↓oZ_mulL, ↓oZ_fdiv, ↓oZ_mod, ↓oZ_pow, ↓oZ_eqI, ↓oZ_eqS, ↓oZ_neS, ↓oZ_neI, ↓oZ_lt, ↓oZ_le, ↓oZ_gt, ↓oZ_ge, ↓oZ_ixL, ↓oZ_ixT, ↓aI_0, ↓aI_1, ↓aI_2, ↓nI_0, ↓nI_1, ↓lS_0, ↓lS_s, ↓aI_int, ↓aI_str, ↓aI_row, ↓aI_b2, ↓aI_i1, ↓aI_i2, ↓aI_i3, ↓aI_i4, ↓aI_i5, ↓aI_i6, ↓oZ_abyz, ↓oZ_az, ↓cZ_lenLm, ↓cZ_lenTm, ↓cZ_lenP, ↓oZ_ixP, ↓sD_P, ↓cZ_lstP, ↓cZ_abs, ↓cZ_int, ↓cZ_intB, ↓cZ_tup, ↓cZ_lstL, ↓cZ_lstT, ↓cZ_all, ↓cZ_any, ↓cZ_max2, ↓cZ_min2, ↓cZ_sum, ↓cZ_sorted, ↓xE_int, ↓xE_bl, ↓xE_str, ↓xE_non, ↓xE_var, ↓xE_op, ↓xE_neg, ↓xE_nt, ↓xE_an, ↓xE_or, ↓xE_ch, ↓xE_isN, ↓xE_notN, ↓xE_ife, ↓xE_tup, ↓xE_lst, ↓xE_sl, ↓sl1_T, ↓sl1_L, ↓xE_cb, ↓xE_isa, ↓xE_call, ↓xE_callX, ↓xE_lget, ↓xE_srs, xE_revT, ↓xE_revL, ↓xE_sw, ↓s2D_s, ↓xB_sif, ↓xE_dget2, ↓xT_tl, ↓xI_ky, ↓xS_lk0, ↓xR_x, ↓xR_call, ↓xR_lst, ↓xR_e, ↓xB_ret, ↓xB_iff, ↓xS_tryK, ↓xS_never, ↓xS_mv0, ↓xS_aug, ↓eF_l, noF_nil, noF_dat, noF_no, noF_lst, noF_dK, ↓sK_j, ↓xE_callS, ↓xE_lc, ↓xE_lc2, ↓xE_callL, ↓rvA_d, ↓tw2_t, ↓sN_0, ↓sN_s, ↓xE_lrg, ↓xE_trg, ↓xE_pop, ↓xE_idxL, ↓sT_s, ↓xE_idxT, ↓xE_dget, ↓xE_din, ↓xE_dnin, ↓xE_dset, ↓xE_dspV, ↓xE_dspC, ↓xE_dspM, ↓tE_d, ↓xI_rng3, ↓xA_nil, ↓xA_cons, ↓xT_te, ↓xT_tb, ↓xT_nt, ↓xT_an, ↓xT_or, ↓xT_yes, ↓xT_lend, ↓xP_no, ↓xP_at, ↓xI_rng1, ↓xI_rng2, ↓xI_u, ↓xI_en, ↓xI_enl, ↓xG_nm, ↓xG_tup, ↓xGs_nil, ↓xGs_cons, ↓sV_d, ↓sV_n, ↓sV_w, ↓rV_d, ↓rV_n, ↓rV_w, ↓rV_o, ↓xS_set, ↓xS_asg, ↓xS_seti, ↓xS_app, ↓xS_newD, ↓xS_dput, ↓xS_drop, ↓xS_dropX, ↓xS_raise, ↓xS_tryC, ↓xS_ret, ↓xS_retN, ↓xS_iff, ↓xS_for, ↓xS_wh, ↓xS_brk, ↓xS_cont, ↓xS_nx, ↓xS_seq, ↓xS_fz, ↓fzK_l, ↓fzK_d, ↓fzK_n, ↓fzK_D, ↓kS_nx, ↓kS_rt, ↓kS_bk, ↓kS_ct, ↓out1_rt, ↓out2_rt, ↓xE_allIn, ↓xE_inC, ↓xE_isB, ↓strD_s, ↓u_c_l_letters_2, ↓fK_s L]
theorem letters2K {β : Type} {N : List Int} {k : Int} {many : Nat} {kv : Vl → List D → Option β} (G : Good N) (h0 : 0 ≤ k) (h1 : k + 200 ≤ KMax) (hm : many ≤ 8) : cKS f_l_letters_2 (stAt N k) [.int (many : Nat)] kv = kv (.d (.tuple ((lettersOf N k many).1.map .str))) (stAt N (lettersOf N k many).2) := cKS_s (letters2_eq G h0 h1 hm)
end CS
namespace CS
open PySem PySem.Spec PyProof.Rows L2 DL EV
local macro_rules | `(tactic| walk_at "side") => `(tactic| first | omega | (simp only [List.length_cons, List.length_nil, List.length_map, List.length_append, List.length_range, PySem.sizeLine_eq]; omega) | assumption | (simp; done))
abbrev RES : List Str := ["any", "empty", "none", "and", "or", "not", "again"]
abbrev az : Str := "abcdefghijklmnopqrstuvwxyz"
abbrev ab4 : List Nat := [97, 98, 121, 122]
def wordB (x : Str) : Bool := (decide ((1 : Int) ≤ (x.length : Int)) && decide ((x.length : Int) ≤ 8)) && (!decide (x ∈ RES) && x.cps.toList.all (oneIn az))
theorem cps_app (a b : Str) : (a ++ b).cps.toList = a.cps.toList ++ b.cps.toList := by
  show (a.cps ++ b.cps).toList = _
  rw [Array.toList_append]
theorem wtext_ab (N : List Int) (k : Int) : ∀ n, (wtext N k n).cps.toList.all (fun c => ab4.contains c) = true
  | 0 => (by decide +kernel : (("" : Str).cps.toList.all fun c => ab4.contains c) = true)
  | n + 1 => by
    show (wtext N k n ++ sign _).cps.toList.all _ = true
    rw [cps_app, List.all_append, wtext_ab N k n, Bool.true_and]
    have a0 := nxt_lo (N := N) (k := k + (n : Nat)) (many := 4) (by decide)
    have a1 := nxt_hi (N := N) (k := k + (n : Nat)) (many := 4) (by decide)
    have : ∀ j < 4, ([("abyz" : Str).cps.toList.getD j 0] : List Nat).all (fun c => ab4.contains c) = true := by decide +kernel
    exact this _ (by omega)
def isAB (x : Str) : Prop := x.cps.toList.all (fun c => ab4.contains c) = true ∧ 1 ≤ x.length ∧ x.length ≤ 8
def isC (n : Nat) (x : Str) : Prop := ∃ i, i < n ∧ x = "c" ++ alpha i
theorem ab_az : ∀ c ∈ ab4, oneIn az c = true := by decide +kernel
theorem ab_word {x : Str} (h : isAB x) : wordB x = true := by
  obtain ⟨h1, h2, h3⟩ := h
  have r : ¬ x ∈ RES := fun m => by
    have : ∀ y ∈ RES, y.cps.toList.all (fun c => ab4.contains c) = false := by decide +kernel
    rw [this x m] at h1
    cases h1
  have a : x.cps.toList.all (oneIn az) = true := List.all_eq_true.mpr fun c m => ab_az c (by have := List.all_eq_true.mp h1 c m; exact List.contains_iff_mem.mp this)
  unfold wordB
  rw [decide_eq_true (show (1 : Int) ≤ (x.length : Int) by omega), decide_eq_true (show (x.length : Int) ≤ 8 by omega), decide_eq_false r, a]
  rfl
theorem c_word {n : Nat} {x : Str} (hn : n ≤ 26) (h : isC n x) : wordB x = true := by
  obtain ⟨i, hi, rfl⟩ := h
  have : ∀ j < 26, wordB ("c" ++ alpha j) = true := by decide +kernel
  exact this i (by omega)
theorem c_not_ab {i : Nat} (h : isAB ("c" ++ alpha i)) : False := by
  have h1 := h.1
  rw [cps_app, List.all_append] at h1
  have : ("c" : Str).cps.toList.all (fun c => ab4.contains c) = false := by decide +kernel
  rw [this] at h1
  cases h1
theorem c_inj {i j : Nat} (hi : i < 26) (hj : j < 26) (h : ("c" : Str) ++ alpha i = "c" ++ alpha j) : i = j := by
  have : ∀ a < 26, ∀ b < 26, ("c" : Str) ++ alpha a = "c" ++ alpha b → a = b := by decide +kernel
  exact this i hi j hj h
theorem letters_len' (N : List Int) (k : Int) : ∀ n, (lettersOf N k n).1.length = n
  | 0 => rfl
  | n + 1 => by
    show ((lettersOf N k n).1 ++ [_]).length = _
    rw [List.length_append, letters_len' N k n]; rfl
theorem letters_nd (N : List Int) (k : Int) : ∀ n, n ≤ 26 → (lettersOf N k n).1.Nodup ∧ ∀ x ∈ (lettersOf N k n).1, isAB x ∨ isC n x
  | 0, _ => ⟨List.nodup_nil, fun x m => nomatch m⟩
  | n + 1, hn => by
    obtain ⟨h1, h2⟩ := letters_nd N k n (by omega)
    have e : (lettersOf N k (n + 1)).1 = (lettersOf N k n).1 ++ [wordOf N (lettersOf N k n).2 (lettersOf N k n).1] := rfl
    rw [e]
    generalize hT : (lettersOf N k n).1 = T at *
    have hl : T.length = n := by rw [← hT]; exact letters_len' N k n
    generalize (lettersOf N k n).2 = k' at *
    have b := wlen_bnd N k'
    have wab : isAB (wtext N (k' + 2) (wlen N k').toNat) := ⟨wtext_ab _ _ _, by rw [wtext_len]; omega, by rw [wtext_len]; omega⟩
    have main : wordOf N k' T ∉ T ∧ (isAB (wordOf N k' T) ∨ isC (n + 1) (wordOf N k' T)) := by
      unfold wordOf
      split
      · refine ⟨fun m => ?_, .inr ⟨n, by omega, by rw [hl]⟩⟩
        rcases h2 _ m with a | ⟨i, hi, e⟩
        · exact c_not_ab a
        · have := c_inj (by omega) (by omega) e
          omega
      · rename_i hq
        refine ⟨fun m => hq (List.any_eq_true.mpr ⟨_, m, by simp⟩), .inl wab⟩
    refine ⟨List.nodup_append.mpr ⟨h1, by simp, fun a ha b hb e => ?_⟩, fun x m => ?_⟩
    · rw [List.mem_singleton.mp hb] at e
      exact main.1 (e ▸ ha)
    · rcases List.mem_append.mp m with m | m
      · rcases h2 x m with a | ⟨i, hi, e⟩
        · exact .inl a
        · exact .inr ⟨i, by omega, e⟩
      · rw [List.mem_singleton.mp m]; exact main.2
theorem letters_words (N : List Int) (k : Int) {n : Nat} (hn : n ≤ 26) : ∀ x ∈ (lettersOf N k n).1, wordB x = true := fun x m => by
  rcases (letters_nd N k n hn).2 x m with a | a
  · exact ab_word a
  · exact c_word hn a
def oneB (L : List Str) (i : Nat) : Bool := wordB (L.getD i "") && !decide (L.getD i "" ∈ L.take i)
def lettersB (L : List Str) : Bool := (decide ((1 : Int) ≤ (L.length : Int)) && decide ((L.length : Int) ≤ 4)) && (List.range L.length).all (oneB L)
def roomB (n : Nat) (x : Int) : Bool := decide (0 ≤ x) && decide (x < (n : Int))
def rowB (m n : Nat) (r : List Int) : Bool := decide (r.length = m) && r.all (roomB n)
def upB (g : List Int) (i : Nat) : Bool := decide (g.getD i 0 < g.getD (i + 1) 0)
def machB (L : List Str) (rows : List (List Int)) (g : List Int) : Bool := lettersB L && ((decide ((1 : Int) ≤ (rows.length : Int)) && decide ((rows.length : Int) ≤ 8)) && (rows.all (rowB L.length rows.length) && (g.all (roomB rows.length) && (List.range (g.length - 1)).all (upB g))))
theorem lettersB_good {L : List Str} (nd : L.Nodup) (hw : ∀ x ∈ L, wordB x = true) (h1 : 1 ≤ L.length) (h4 : L.length ≤ 4) : lettersB L = true := by
  unfold lettersB
  rw [decide_eq_true (show (1 : Int) ≤ (L.length : Int) by omega), decide_eq_true (show (L.length : Int) ≤ 4 by omega)]
  show (List.range L.length).all (oneB L) = true
  refine List.all_eq_true.mpr fun i m => ?_
  have hi := List.mem_range.mp m
  have e : L.getD i "" = L[i] := by simp [hi]
  unfold oneB
  rw [e, hw _ (List.getElem_mem hi), decide_eq_false]
  · rfl
  · intro q
    obtain ⟨j, hj, ej⟩ := List.mem_iff_getElem.mp q
    rw [List.length_take] at hj
    rw [List.getElem_take] at ej
    have := (List.nodup_iff_pairwise_ne.mp nd)
    have hji : j < i := by omega
    exact List.pairwise_iff_getElem.mp this j i (by omega) hi hji ej
theorem lettersB_bad {L : List Str} {i : Nat} (hi : i < L.length) (h : oneB L i = false) : lettersB L = false := by
  unfold lettersB
  rw [Bool.and_eq_false_iff]
  right
  rw [List.all_eq_false]
  exact ⟨i, List.mem_range.mpr hi, by rw [h]; decide⟩
end CS
namespace CS
open PySem PySem.Spec PyProof.Rows L2 DL EV
local macro_rules | `(tactic| walk_at "side") => `(tactic| first | omega | (simp only [List.length_cons, List.length_nil, List.length_map, List.length_append, List.length_range, PySem.sizeLine_eq]; omega) | assumption | (simp; done))
end CS
namespace CS
open PySem PySem.Spec PyProof.Rows L2 DL EV
local macro_rules | `(tactic| walk_at "side") => `(tactic| first | omega | (simp only [List.length_cons, List.length_nil, List.length_map, List.length_append, List.length_range, PySem.sizeLine_eq]; omega) | assumption | (simp; done))
theorem nodup_lt : ∀ (m : Nat) (l : List Nat), l.Nodup → (∀ x ∈ l, x < m) → l.length ≤ m
  | 0, l, _, h => by
    cases l with
    | nil => exact Nat.le_refl _
    | cons x l => exact absurd (h x List.mem_cons_self) (Nat.not_lt_zero _)
  | m + 1, l, nd, h => by
    have h1 := nodup_lt m (l.erase m) (nd.erase m) fun x hx => by
      have h2 := (nd.mem_erase_iff).mp hx
      have := h x h2.2
      omega
    have := List.length_erase (a := m) (l := l)
    split at this <;> omega
def enc4 : List Int → Nat
  | [] => 0
  | x :: l => x.toNat + 4 * enc4 l
theorem enc4_lt : ∀ {n : Nat} {l : List Int}, l.length = n → (∀ x ∈ l, 0 ≤ x ∧ x < 4) → enc4 l < 4 ^ n
  | _, [], e, _ => by subst e; simp [enc4]
  | _, x :: l, e, h => by
    subst e
    have h1 := enc4_lt (l := l) rfl fun y m => h y (List.mem_cons_of_mem _ m)
    have h2 := h x List.mem_cons_self
    have e : enc4 (x :: l) = x.toNat + 4 * enc4 l := rfl
    rw [e, List.length_cons, Nat.pow_succ]
    omega
theorem enc4_inj : ∀ {a b : List Int}, a.length = b.length → (∀ x ∈ a, 0 ≤ x ∧ x < 4) → (∀ x ∈ b, 0 ≤ x ∧ x < 4) → enc4 a = enc4 b → a = b
  | [], [], _, _, _, _ => rfl
  | [], _ :: _, e, _, _, _ => nomatch e
  | _ :: _, [], e, _, _, _ => nomatch e
  | x :: a, y :: b, e, h, h', q => by
    have h1 := h x List.mem_cons_self
    have h2 := h' y List.mem_cons_self
    have q' : x.toNat + 4 * enc4 a = y.toNat + 4 * enc4 b := q
    have h3 := enc4_inj (a := a) (b := b) (by simpa using e) (fun z m => h z (List.mem_cons_of_mem _ m)) (fun z m => h' z (List.mem_cons_of_mem _ m)) (by omega)
    rw [h3, show x = y by omega]
theorem nodup_map {α β : Type} {f : α → β} : ∀ {l : List α}, l.Nodup → (∀ x ∈ l, ∀ y ∈ l, f x = f y → x = y) → (l.map f).Nodup
  | [], _, _ => List.Pairwise.nil
  | x :: l, nd, h => by
    rw [List.nodup_cons] at nd
    rw [List.map_cons, List.nodup_cons]
    refine ⟨fun m => ?_, nodup_map nd.2 fun a ha b hb => h a (List.mem_cons_of_mem _ ha) b (List.mem_cons_of_mem _ hb)⟩
    obtain ⟨y, hy, e⟩ := List.mem_map.mp m
    have := h y (List.mem_cons_of_mem _ hy) x List.mem_cons_self e
    exact nd.1 (this ▸ hy)
theorem few {n : Nat} {E : List (List Int)} (hn : n ≤ 4) (ho : ∀ x ∈ E, okMap n x) (nd : E.Nodup) : E.length ≤ 256 := by
  have h4 : ∀ x ∈ E, ∀ i ∈ x, (0 : Int) ≤ i ∧ i < 4 := fun x m i mi => by
    have := (ho x m).2 i mi
    omega
  have h1 : (E.map enc4).Nodup := nodup_map nd fun x hx y hy e => enc4_inj ((ho x hx).1.trans (ho y hy).1.symm) (h4 x hx) (h4 y hy) e
  have h2 := nodup_lt (4 ^ n) (E.map enc4) h1 fun z m => by
    obtain ⟨x, hx, e⟩ := List.mem_map.mp m
    rw [← e]
    exact enc4_lt (ho x hx).1 (h4 x hx)
  rw [List.length_map] at h2
  have : 4 ^ n ≤ 4 ^ 4 := Nat.pow_le_pow_right (by omega) hn
  omega
end CS
namespace CS
open PySem PySem.Spec PyProof.Rows L2 DL EV
local macro_rules | `(tactic| walk_at "side") => `(tactic| first | omega | (simp only [List.length_cons, List.length_nil, List.length_map, List.length_append, List.length_range, PySem.sizeLine_eq]; omega) | assumption | (simp; done))
end CS
namespace CS
open PySem PySem.Spec PyProof.Rows L2 DL EV
local macro_rules | `(tactic| walk_at "side") => `(tactic| first | omega | (simp only [List.length_cons, List.length_nil, List.length_map, List.length_append, List.length_range, PySem.sizeLine_eq]; omega) | assumption | (simp; done))
theorem cut_take (ds : List D) {j : Int} (h : 0 ≤ j) : DL.cutD ds none (some j) = ds.take j.toNat := by
  unfold DL.cutD
  have e : j = ((j.toNat : Nat) : Int) := by omega
  rw [e, HT.sIx_none, HT.sIx_nat, Int.toNat_natCast, List.drop_zero, Nat.sub_zero]
  by_cases z : j.toNat ≤ ds.length
  · rw [Nat.min_eq_left z]
  · rw [Nat.min_eq_right (by omega), List.take_length, List.take_of_length_le (by omega)]
end CS
namespace CS
open PySem PySem.Spec PyProof.Rows L2 DL EV
local macro_rules | `(tactic| walk_at "side") => `(tactic| first | omega | (simp only [List.length_cons, List.length_nil, List.length_map, List.length_append, List.length_range, PySem.sizeLine_eq]; omega) | assumption | (simp; done))
section
variable {β : Type} {ρ : Rho} {kn : Rho → Option β} {ka : Out → Option β}
theorem kS_exY {C : Addr} : kS (.ex C ρ) kn ka = ka (.ex C ρ) := rfl
theorem out3_exY {C : Addr} : out3 (.ex C ρ) = some (.exc C) := rfl
end
/-- a loop that lets an exception out at the first item that is not good; what a turn changes is not told -/
theorem for_okY {α : Type} {f : D → Rho → Option Out} (enc : α → D) (P : Rho → Prop) (p : α → Bool) {C : Addr} : ∀ {l : List α} {ρ : Rho}, P ρ → (∀ x ∈ l, ∀ ρ, P ρ → ∃ ρ', P ρ' ∧ f (enc x) ρ = some (if p x then .nx ρ' else .ex C ρ')) →
    ∃ ρ', P ρ' ∧ forGo f (l.map enc) ρ = some (if l.all p then .nx ρ' else .ex C ρ')
  | [], ρ, h0, _ => ⟨ρ, h0, rfl⟩
  | x :: l, ρ, h0, h => by
    obtain ⟨ρ1, h1, t⟩ := h x List.mem_cons_self ρ h0
    cases q : p x with
    | true =>
      rw [q] at t
      obtain ⟨ρ', h2, k⟩ := for_okY enc P p (l := l) h1 fun y m => h y (List.mem_cons_of_mem _ m)
      refine ⟨ρ', h2, ?_⟩
      show (f (enc x) ρ).bind _ = _
      rw [t, List.all_cons, q]
      exact k
    | false =>
      rw [q] at t
      refine ⟨ρ1, h1, ?_⟩
      show (f (enc x) ρ).bind _ = _
      rw [t, List.all_cons, q]
      rfl
theorem is_word_eq {x : Str} (hx : x.length ≤ sizeLine) : f_is_word [.str x] = some (.dat (.bool (wordB x))) := by
  have ln : ∀ {β : Type} (kz : Rz → Option β), cZ .len [.str x] kz = kz (.d (.int (x.length : Nat))) := fun kz => by
    show Option.bind (if _ then _ else none) _ = _
    rw [if_pos hx]
    rfl
  rw [x_is_word]
  unfold wordB
  by_cases h1 : (1 : Int) ≤ (x.length : Int)
  · by_cases h2 : (x.length : Int) ≤ 8
    · have d1 := decide_eq_true h1
      have d2 := decide_eq_true h2
      by_cases h3 : x ∈ RES
      · have d3 := decide_eq_true h3
        simp (config := { implicitDefEqProofs := false }) (disch := walk_at "side") only [↓reduceIte, decide_eq_true_eq, decide_true, decide_false, Bool.not_true, Bool.not_false, Bool.false_eq_true, Int.reduceEq, Int.reduceLT, Int.reduceLE, Int.reduceNeg, Int.reduceToNat, ↓okI, ↓okI2, ↓aV_d, ↓aV_o, ↓aV_n, ↓aV_w, ↓dV_d, ↓dV_wD, ↓aV_wD, ↓dO_d, ↓kV_w, ↓xE_dinD, ↓xE_dninD, ↓xE_dgetD, ↓xE_fnv, ↓xE_callF, ↓xE_callE, ↓xE_isaT, ↓xE_dspb, ↓xI_ukd, ↓xS_retD, ↓xS_fzD, ↓fzKD_D, ↓fzKD_d, ↓dV_n, ↓dV_w, ↓gE_0, ↓gE_s, ↓eL_l, ↓eD_l, ↓eV_d, ↓eV_l, ↓nA_d, ↓nA_o, ↓iD_i, ↓bD_b, ↓kD_i, ↓kD_s, ↓zD_d, ↓vZ_d, ↓vZ_n, ↓sR_0, ↓sR_s, ↓sK_n, ↓sK_0, ↓lD_l, ↓sD_l, ↓sD_t, ↓tD_t, ↓dA_nil, ↓dA_d, ↓dN_nil, ↓dN_c, ↓oZ_addI, ↓oZ_addS, ↓oZ_addT, ↓oZ_addL, ↓oZ_sub, ↓oZ_mul, ↓oZ_mulT, ↓oZ_mulL, ↓oZ_fdiv, ↓oZ_mod, ↓oZ_pow, ↓oZ_eqI, ↓oZ_eqS, ↓oZ_neS, ↓oZ_neI, ↓oZ_lt, ↓oZ_le, ↓oZ_gt, ↓oZ_ge, ↓oZ_ixL, ↓oZ_ixT, ↓aI_0, ↓aI_1, ↓aI_2, ↓nI_0, ↓nI_1, ↓lS_0, ↓lS_s, ↓aI_int, ↓aI_str, ↓aI_row, ↓aI_b2, ↓aI_i1, ↓aI_i2, ↓aI_i3, ↓aI_i4, ↓aI_i5, ↓aI_i6, ↓oZ_abyz, ↓oZ_az, ↓cZ_lenLm, ↓cZ_lenTm, ↓cZ_lenP, ↓oZ_ixP, ↓sD_P, ↓cZ_lstP, ↓cZ_abs, ↓cZ_int, ↓cZ_intB, ↓cZ_tup, ↓cZ_lstL, ↓cZ_lstT, ↓cZ_all, ↓cZ_any, ↓cZ_max2, ↓cZ_min2, ↓cZ_sum, ↓cZ_sorted, ↓xE_int, ↓xE_bl, ↓xE_str, ↓xE_non, ↓xE_var, ↓xE_op, ↓xE_neg, ↓xE_nt, ↓xE_an, ↓xE_or, ↓xE_ch, ↓xE_isN, ↓xE_notN, ↓xE_ife, ↓xE_tup, ↓xE_lst, ↓xE_sl, ↓sl1_T, ↓sl1_L, ↓xE_cb, ↓xE_isa, ↓xE_call, ↓xE_callX, ↓xE_lget, ↓xE_srs, xE_revT, ↓xE_revL, ↓xE_sw, ↓s2D_s, ↓xB_sif, ↓xE_dget2, ↓xT_tl, ↓xI_ky, ↓xS_lk0, ↓xR_x, ↓xR_call, ↓xR_lst, ↓xR_e, ↓xB_ret, ↓xB_iff, ↓xS_tryK, ↓xS_never, ↓xS_mv0, ↓xS_aug, ↓eF_l, noF_nil, noF_dat, noF_no, noF_lst, noF_dK, ↓sK_j, ↓xE_callS, ↓xE_lc, ↓xE_lc2, ↓xE_callL, ↓rvA_d, ↓tw2_t, ↓sN_0, ↓sN_s, ↓xE_lrg, ↓xE_trg, ↓xE_pop, ↓xE_idxL, ↓sT_s, ↓xE_idxT, ↓xE_dget, ↓xE_din, ↓xE_dnin, ↓xE_dset, ↓xE_dspV, ↓xE_dspC, ↓xE_dspM, ↓tE_d, ↓xI_rng3, ↓xA_nil, ↓xA_cons, ↓xT_te, ↓xT_tb, ↓xT_nt, ↓xT_an, ↓xT_or, ↓xT_yes, ↓xT_lend, ↓xP_no, ↓xP_at, ↓xI_rng1, ↓xI_rng2, ↓xI_u, ↓xI_en, ↓xI_enl, ↓xG_nm, ↓xG_tup, ↓xGs_nil, ↓xGs_cons, ↓sV_d, ↓sV_n, ↓sV_w, ↓rV_d, ↓rV_n, ↓rV_w, ↓rV_o, ↓xS_set, ↓xS_asg, ↓xS_seti, ↓xS_app, ↓xS_newD, ↓xS_dput, ↓xS_drop, ↓xS_dropX, ↓xS_raise, ↓xS_tryC, ↓xS_ret, ↓xS_retN, ↓xS_iff, ↓xS_for, ↓xS_wh, ↓xS_brk, ↓xS_cont, ↓xS_nx, ↓xS_seq, ↓xS_fz, ↓fzK_l, ↓fzK_d, ↓fzK_n, ↓fzK_D, ↓kS_nx, ↓kS_rt, ↓kS_bk, ↓kS_ct, ↓out1_rt, ↓out2_rt, ↓xE_allIn, ↓xE_inC, ↓xE_isB, ↓strD_s, ↓u_c_is_word, ↓ln, d1, d2, d3, Bool.not_true, Bool.false_eq_true, Bool.and_self, Bool.false_and, Bool.and_false]
      · have d3 := decide_eq_false h3
        simp (config := { implicitDefEqProofs := false }) (disch := walk_at "side") only [↓reduceIte, decide_eq_true_eq, decide_true, decide_false, Bool.not_true, Bool.not_false, Bool.false_eq_true, Int.reduceEq, Int.reduceLT, Int.reduceLE, Int.reduceNeg, Int.reduceToNat, ↓okI, ↓okI2, ↓aV_d, ↓aV_o, ↓aV_n, ↓aV_w, ↓dV_d, ↓dV_wD, ↓aV_wD, ↓dO_d, ↓kV_w, ↓xE_dinD, ↓xE_dninD, ↓xE_dgetD, ↓xE_fnv, ↓xE_callF, ↓xE_callE, ↓xE_isaT, ↓xE_dspb, ↓xI_ukd, ↓xS_retD, ↓xS_fzD, ↓fzKD_D, ↓fzKD_d, ↓dV_n, ↓dV_w, ↓gE_0, ↓gE_s, ↓eL_l, ↓eD_l, ↓eV_d, ↓eV_l, ↓nA_d, ↓nA_o, ↓iD_i, ↓bD_b, ↓kD_i, ↓kD_s, ↓zD_d, ↓vZ_d, ↓vZ_n, ↓sR_0, ↓sR_s, ↓sK_n, ↓sK_0, ↓lD_l, ↓sD_l, ↓sD_t, ↓tD_t, ↓dA_nil, ↓dA_d, ↓dN_nil, ↓dN_c, ↓oZ_addI, ↓oZ_addS, ↓oZ_addT, ↓oZ_addL, ↓oZ_sub, ↓oZ_mul, ↓oZ_mulT, ↓oZ_mulL, ↓oZ_fdiv, ↓oZ_mod, ↓oZ_pow, ↓oZ_eqI, ↓oZ_eqS, ↓oZ_neS, ↓oZ_neI, ↓oZ_lt, ↓oZ_le, ↓oZ_gt, ↓oZ_ge, ↓oZ_ixL, ↓oZ_ixT, ↓aI_0, ↓aI_1, ↓aI_2, ↓nI_0, ↓nI_1, ↓lS_0, ↓lS_s, ↓aI_int, ↓aI_str, ↓aI_row, ↓aI_b2, ↓aI_i1, ↓aI_i2, ↓aI_i3, ↓aI_i4, ↓aI_i5, ↓aI_i6, ↓oZ_abyz, ↓oZ_az, ↓cZ_lenLm, ↓cZ_lenTm, ↓cZ_lenP, ↓oZ_ixP, ↓sD_P, ↓cZ_lstP, ↓cZ_abs, ↓cZ_int, ↓cZ_intB, ↓cZ_tup, ↓cZ_lstL, ↓cZ_lstT, ↓cZ_all, ↓cZ_any, ↓cZ_max2, ↓cZ_min2, ↓cZ_sum, ↓cZ_sorted, ↓xE_int, ↓xE_bl, ↓xE_str, ↓xE_non, ↓xE_var, ↓xE_op, ↓xE_neg, ↓xE_nt, ↓xE_an, ↓xE_or, ↓xE_ch, ↓xE_isN, ↓xE_notN, ↓xE_ife, ↓xE_tup, ↓xE_lst, ↓xE_sl, ↓sl1_T, ↓sl1_L, ↓xE_cb, ↓xE_isa, ↓xE_call, ↓xE_callX, ↓xE_lget, ↓xE_srs, xE_revT, ↓xE_revL, ↓xE_sw, ↓s2D_s, ↓xB_sif, ↓xE_dget2, ↓xT_tl, ↓xI_ky, ↓xS_lk0, ↓xR_x, ↓xR_call, ↓xR_lst, ↓xR_e, ↓xB_ret, ↓xB_iff, ↓xS_tryK, ↓xS_never, ↓xS_mv0, ↓xS_aug, ↓eF_l, noF_nil, noF_dat, noF_no, noF_lst, noF_dK, ↓sK_j, ↓xE_callS, ↓xE_lc, ↓xE_lc2, ↓xE_callL, ↓rvA_d, ↓tw2_t, ↓sN_0, ↓sN_s, ↓xE_lrg, ↓xE_trg, ↓xE_pop, ↓xE_idxL, ↓sT_s, ↓xE_idxT, ↓xE_dget, ↓xE_din, ↓xE_dnin, ↓xE_dset, ↓xE_dspV, ↓xE_dspC, ↓xE_dspM, ↓tE_d, ↓xI_rng3, ↓xA_nil, ↓xA_cons, ↓xT_te, ↓xT_tb, ↓xT_nt, ↓xT_an, ↓xT_or, ↓xT_yes, ↓xT_lend, ↓xP_no, ↓xP_at, ↓xI_rng1, ↓xI_rng2, ↓xI_u, ↓xI_en, ↓xI_enl, ↓xG_nm, ↓xG_tup, ↓xGs_nil, ↓xGs_cons, ↓sV_d, ↓sV_n, ↓sV_w, ↓rV_d, ↓rV_n, ↓rV_w, ↓rV_o, ↓xS_set, ↓xS_asg, ↓xS_seti, ↓xS_app, ↓xS_newD, ↓xS_dput, ↓xS_drop, ↓xS_dropX, ↓xS_raise, ↓xS_tryC, ↓xS_ret, ↓xS_retN, ↓xS_iff, ↓xS_for, ↓xS_wh, ↓xS_brk, ↓xS_cont, ↓xS_nx, ↓xS_seq, ↓xS_fz, ↓fzK_l, ↓fzK_d, ↓fzK_n, ↓fzK_D, ↓kS_nx, ↓kS_rt, ↓kS_bk, ↓kS_ct, ↓out1_rt, ↓out2_rt, ↓xE_allIn, ↓xE_inC, ↓xE_isB, ↓strD_s, ↓u_c_is_word, ↓ln, d1, d2, d3, Bool.not_true, Bool.not_false, Bool.false_eq_true, Bool.and_self, Bool.true_and]
    · have d1 := decide_eq_true h1
      have d2 := decide_eq_false h2
      simp (config := { implicitDefEqProofs := false }) (disch := walk_at "side") only [↓reduceIte, decide_eq_true_eq, decide_true, decide_false, Bool.not_true, Bool.not_false, Bool.false_eq_true, Int.reduceEq, Int.reduceLT, Int.reduceLE, Int.reduceNeg, Int.reduceToNat, ↓okI, ↓okI2, ↓aV_d, ↓aV_o, ↓aV_n, ↓aV_w, ↓dV_d, ↓dV_wD, ↓aV_wD, ↓dO_d, ↓kV_w, ↓xE_dinD, ↓xE_dninD, ↓xE_dgetD, ↓xE_fnv, ↓xE_callF, ↓xE_callE, ↓xE_isaT, ↓xE_dspb, ↓xI_ukd, ↓xS_retD, ↓xS_fzD, ↓fzKD_D, ↓fzKD_d, ↓dV_n, ↓dV_w, ↓gE_0, ↓gE_s, ↓eL_l, ↓eD_l, ↓eV_d, ↓eV_l, ↓nA_d, ↓nA_o, ↓iD_i, ↓bD_b, ↓kD_i, ↓kD_s, ↓zD_d, ↓vZ_d, ↓vZ_n, ↓sR_0, ↓sR_s, ↓sK_n, ↓sK_0, ↓lD_l, ↓sD_l, ↓sD_t, ↓tD_t, ↓dA_nil, ↓dA_d, ↓dN_nil, ↓dN_c, ↓oZ_addI, ↓oZ_addS, ↓oZ_addT, ↓oZ_addL, ↓oZ_sub, ↓oZ_mul, ↓oZ_mulT, ↓oZ_mulL, ↓oZ_fdiv, ↓oZ_mod, ↓oZ_pow, ↓oZ_eqI, ↓oZ_eqS, ↓oZ_neS, ↓oZ_neI, ↓oZ_lt, ↓oZ_le, ↓oZ_gt, ↓oZ_ge, ↓oZ_ixL, ↓oZ_ixT, ↓aI_0, ↓aI_1, ↓aI_2, ↓nI_0, ↓nI_1, ↓lS_0, ↓lS_s, ↓aI_int, ↓aI_str, ↓aI_row, ↓aI_b2, ↓aI_i1, ↓aI_i2, ↓aI_i3, ↓aI_i4, ↓aI_i5, ↓aI_i6, ↓oZ_abyz, ↓oZ_az, ↓cZ_lenLm, ↓cZ_lenTm, ↓cZ_lenP, ↓oZ_ixP, ↓sD_P, ↓cZ_lstP, ↓cZ_abs, ↓cZ_int, ↓cZ_intB, ↓cZ_tup, ↓cZ_lstL, ↓cZ_lstT, ↓cZ_all, ↓cZ_any, ↓cZ_max2, ↓cZ_min2, ↓cZ_sum, ↓cZ_sorted, ↓xE_int, ↓xE_bl, ↓xE_str, ↓xE_non, ↓xE_var, ↓xE_op, ↓xE_neg, ↓xE_nt, ↓xE_an, ↓xE_or, ↓xE_ch, ↓xE_isN, ↓xE_notN, ↓xE_ife, ↓xE_tup, ↓xE_lst, ↓xE_sl, ↓sl1_T, ↓sl1_L, ↓xE_cb, ↓xE_isa, ↓xE_call, ↓xE_callX, ↓xE_lget, ↓xE_srs, xE_revT, ↓xE_revL, ↓xE_sw, ↓s2D_s, ↓xB_sif, ↓xE_dget2, ↓xT_tl, ↓xI_ky, ↓xS_lk0, ↓xR_x, ↓xR_call, ↓xR_lst, ↓xR_e, ↓xB_ret, ↓xB_iff, ↓xS_tryK, ↓xS_never, ↓xS_mv0, ↓xS_aug, ↓eF_l, noF_nil, noF_dat, noF_no, noF_lst, noF_dK, ↓sK_j, ↓xE_callS, ↓xE_lc, ↓xE_lc2, ↓xE_callL, ↓rvA_d, ↓tw2_t, ↓sN_0, ↓sN_s, ↓xE_lrg, ↓xE_trg, ↓xE_pop, ↓xE_idxL, ↓sT_s, ↓xE_idxT, ↓xE_dget, ↓xE_din, ↓xE_dnin, ↓xE_dset, ↓xE_dspV, ↓xE_dspC, ↓xE_dspM, ↓tE_d, ↓xI_rng3, ↓xA_nil, ↓xA_cons, ↓xT_te, ↓xT_tb, ↓xT_nt, ↓xT_an, ↓xT_or, ↓xT_yes, ↓xT_lend, ↓xP_no, ↓xP_at, ↓xI_rng1, ↓xI_rng2, ↓xI_u, ↓xI_en, ↓xI_enl, ↓xG_nm, ↓xG_tup, ↓xGs_nil, ↓xGs_cons, ↓sV_d, ↓sV_n, ↓sV_w, ↓rV_d, ↓rV_n, ↓rV_w, ↓rV_o, ↓xS_set, ↓xS_asg, ↓xS_seti, ↓xS_app, ↓xS_newD, ↓xS_dput, ↓xS_drop, ↓xS_dropX, ↓xS_raise, ↓xS_tryC, ↓xS_ret, ↓xS_retN, ↓xS_iff, ↓xS_for, ↓xS_wh, ↓xS_brk, ↓xS_cont, ↓xS_nx, ↓xS_seq, ↓xS_fz, ↓fzK_l, ↓fzK_d, ↓fzK_n, ↓fzK_D, ↓kS_nx, ↓kS_rt, ↓kS_bk, ↓kS_ct, ↓out1_rt, ↓out2_rt, ↓xE_allIn, ↓xE_inC, ↓xE_isB, ↓strD_s, ↓u_c_is_word, ↓ln, d1, d2, Bool.not_false, Bool.false_eq_true, Bool.and_false, Bool.false_and]
  · have d1 := decide_eq_false h1
    simp (config := { implicitDefEqProofs := false }) (disch := walk_at "side") only [↓reduceIte, decide_eq_true_eq, decide_true, decide_false, Bool.not_true, Bool.not_false, Bool.false_eq_true, Int.reduceEq, Int.reduceLT, Int.reduceLE, Int.reduceNeg, Int.reduceToNat, ↓okI, ↓okI2, ↓aV_d, ↓aV_o, ↓aV_n, ↓aV_w, ↓dV_d, ↓dV_wD, ↓aV_wD, ↓dO_d, ↓kV_w, ↓xE_dinD, ↓xE_dninD, ↓xE_dgetD, ↓xE_fnv, ↓xE_callF, ↓xE_callE, ↓xE_isaT, ↓xE_dspb, ↓xI_ukd, ↓xS_retD, ↓xS_fzD, ↓fzKD_D, ↓fzKD_d, ↓dV_n, ↓dV_w, ↓gE_0, ↓gE_s, ↓eL_l, ↓eD_l, ↓eV_d, ↓eV_l, ↓nA_d, ↓nA_o, ↓iD_i, ↓bD_b, ↓kD_i, ↓kD_s, ↓zD_d, ↓vZ_d, ↓vZ_n, ↓sR_0, ↓sR_s, ↓sK_n, ↓sK_0, ↓lD_l, ↓sD_l, ↓sD_t, ↓tD_t, ↓dA_nil, ↓dA_d, ↓dN_nil, ↓dN_c, ↓oZ_addI, ↓oZ_addS, ↓oZ_addT, ↓oZ_addL, ↓oZ_sub, ↓oZ_mul, ↓oZ_mulT, ↓oZ_mulL, ↓oZ_fdiv, ↓oZ_mod, ↓oZ_pow, ↓oZ_eqI, ↓oZ_eqS, ↓oZ_neS, ↓oZ_neI, ↓oZ_lt, ↓oZ_le, ↓oZ_gt, ↓oZ_ge, ↓oZ_ixL, ↓oZ_ixT, ↓aI_0, ↓aI_1, ↓aI_2, ↓nI_0, ↓nI_1, ↓lS_0, ↓lS_s, ↓aI_int, ↓aI_str, ↓aI_row, ↓aI_b2, ↓aI_i1, ↓aI_i2, ↓aI_i3, ↓aI_i4, ↓aI_i5, ↓aI_i6, ↓oZ_abyz, ↓oZ_az, ↓cZ_lenLm, ↓cZ_lenTm, ↓cZ_lenP, ↓oZ_ixP, ↓sD_P, ↓cZ_lstP, ↓cZ_abs, ↓cZ_int, ↓cZ_intB, ↓cZ_tup, ↓cZ_lstL, ↓cZ_lstT, ↓cZ_all, ↓cZ_any, ↓cZ_max2, ↓cZ_min2, ↓cZ_sum, ↓cZ_sorted, ↓xE_int, ↓xE_bl, ↓xE_str, ↓xE_non, ↓xE_var, ↓xE_op, ↓xE_neg, ↓xE_nt, ↓xE_an, ↓xE_or, ↓xE_ch, ↓xE_isN, ↓xE_notN, ↓xE_ife, ↓xE_tup, ↓xE_lst, ↓xE_sl, ↓sl1_T, ↓sl1_L, ↓xE_cb, ↓xE_isa, ↓xE_call, ↓xE_callX, ↓xE_lget, ↓xE_srs, xE_revT, ↓xE_revL, ↓xE_sw, ↓s2D_s, ↓xB_sif, ↓xE_dget2, ↓xT_tl, ↓xI_ky, ↓xS_lk0, ↓xR_x, ↓xR_call, ↓xR_lst, ↓xR_e, ↓xB_ret, ↓xB_iff, ↓xS_tryK, ↓xS_never, ↓xS_mv0, ↓xS_aug, ↓eF_l, noF_nil, noF_dat, noF_no, noF_lst, noF_dK, ↓sK_j, ↓xE_callS, ↓xE_lc, ↓xE_lc2, ↓xE_callL, ↓rvA_d, ↓tw2_t, ↓sN_0, ↓sN_s, ↓xE_lrg, ↓xE_trg, ↓xE_pop, ↓xE_idxL, ↓sT_s, ↓xE_idxT, ↓xE_dget, ↓xE_din, ↓xE_dnin, ↓xE_dset, ↓xE_dspV, ↓xE_dspC, ↓xE_dspM, ↓tE_d, ↓xI_rng3, ↓xA_nil, ↓xA_cons, ↓xT_te, ↓xT_tb, ↓xT_nt, ↓xT_an, ↓xT_or, ↓xT_yes, ↓xT_lend, ↓xP_no, ↓xP_at, ↓xI_rng1, ↓xI_rng2, ↓xI_u, ↓xI_en, ↓xI_enl, ↓xG_nm, ↓xG_tup, ↓xGs_nil, ↓xGs_cons, ↓sV_d, ↓sV_n, ↓sV_w, ↓rV_d, ↓rV_n, ↓rV_w, ↓rV_o, ↓xS_set, ↓xS_asg, ↓xS_seti, ↓xS_app, ↓xS_newD, ↓xS_dput, ↓xS_drop, ↓xS_dropX, ↓xS_raise, ↓xS_tryC, ↓xS_ret, ↓xS_retN, ↓xS_iff, ↓xS_for, ↓xS_wh, ↓xS_brk, ↓xS_cont, ↓xS_nx, ↓xS_seq, ↓xS_fz, ↓fzK_l, ↓fzK_d, ↓fzK_n, ↓fzK_D, ↓kS_nx, ↓kS_rt, ↓kS_bk, ↓kS_ct, ↓out1_rt, ↓out2_rt, ↓xE_allIn, ↓xE_inC, ↓xE_isB, ↓strD_s, ↓u_c_is_word, ↓ln, d1, Bool.not_false, Bool.false_eq_true, Bool.false_and]
def eRet (X : Cl) (b : Bool) : RetX := if b then .ok (.dat .none) else .exc X.na
theorem cut_takeY (ds : List D) (i : Nat) : DL.cutD ds none (some (i : Int)) = ds.take i := by
  rw [cut_take ds (by omega)]
  rfl
theorem check_letters_eq {X : Cl} {L : List Str} (hL : ∀ x ∈ L, x.length ≤ sizeLine) : f_check_letters X [.tuple (L.map .str)] = some (eRet X (lettersB L)) := by
  have ln : ∀ {β : Type} (kz : Rz → Option β), cZ .len [.tuple (L.map .str)] kz = kz (.d (.int (L.length : Nat))) := fun kz => by rw [cZ_lenTm]
  rw [x_check_letters]
  unfold lettersB
  by_cases h1 : (1 : Int) ≤ (L.length : Int)
  case neg =>
    have d1 := decide_eq_false h1
    simp (config := { implicitDefEqProofs := false }) (disch := walk_at "side") only [↓reduceIte, decide_eq_true_eq, decide_true, decide_false, Bool.not_true, Bool.not_false, Bool.false_eq_true, Int.reduceEq, Int.reduceLT, Int.reduceLE, Int.reduceNeg, Int.reduceToNat, ↓okI, ↓okI2, ↓aV_d, ↓aV_o, ↓aV_n, ↓aV_w, ↓dV_d, ↓dV_wD, ↓aV_wD, ↓dO_d, ↓kV_w, ↓xE_dinD, ↓xE_dninD, ↓xE_dgetD, ↓xE_fnv, ↓xE_callF, ↓xE_callE, ↓xE_isaT, ↓xE_dspb, ↓xI_ukd, ↓xS_retD, ↓xS_fzD, ↓fzKD_D, ↓fzKD_d, ↓dV_n, ↓dV_w, ↓gE_0, ↓gE_s, ↓eL_l, ↓eD_l, ↓eV_d, ↓eV_l, ↓nA_d, ↓nA_o, ↓iD_i, ↓bD_b, ↓kD_i, ↓kD_s, ↓zD_d, ↓vZ_d, ↓vZ_n, ↓sR_0, ↓sR_s, ↓sK_n, ↓sK_0, ↓lD_l, ↓sD_l, ↓sD_t, ↓tD_t, ↓dA_nil, ↓dA_d, ↓dN_nil, ↓dN_c, ↓oZ_addI, ↓oZ_addS, ↓oZ_addT, ↓oZ_addL, ↓oZ_sub, ↓oZ_mul, ↓oZ_mulT, ↓oZ_mulL, ↓oZ_fdiv, ↓oZ_mod, ↓oZ_pow, ↓oZ_eqI, ↓oZ_eqS, ↓oZ_neS, ↓oZ_neI, ↓oZ_lt, ↓oZ_le, ↓oZ_gt, ↓oZ_ge, ↓oZ_ixL, ↓oZ_ixT, ↓aI_0, ↓aI_1, ↓aI_2, ↓nI_0, ↓nI_1, ↓lS_0, ↓lS_s, ↓aI_int, ↓aI_str, ↓aI_row, ↓aI_b2, ↓aI_i1, ↓aI_i2, ↓aI_i3, ↓aI_i4, ↓aI_i5, ↓aI_i6, ↓oZ_abyz, ↓oZ_az, ↓cZ_lenLm, ↓cZ_lenTm, ↓cZ_lenP, ↓oZ_ixP, ↓sD_P, ↓cZ_lstP, ↓cZ_abs, ↓cZ_int, ↓cZ_intB, ↓cZ_tup, ↓cZ_lstL, ↓cZ_lstT, ↓cZ_all, ↓cZ_any, ↓cZ_max2, ↓cZ_min2, ↓cZ_sum, ↓cZ_sorted, ↓xE_int, ↓xE_bl, ↓xE_str, ↓xE_non, ↓xE_var, ↓xE_op, ↓xE_neg, ↓xE_nt, ↓xE_an, ↓xE_or, ↓xE_ch, ↓xE_isN, ↓xE_notN, ↓xE_ife, ↓xE_tup, ↓xE_lst, ↓xE_sl, ↓sl1_T, ↓sl1_L, ↓xE_cb, ↓xE_isa, ↓xE_call, ↓xE_callX, ↓xE_lget, ↓xE_srs, xE_revT, ↓xE_revL, ↓xE_sw, ↓s2D_s, ↓xB_sif, ↓xE_dget2, ↓xT_tl, ↓xI_ky, ↓xS_lk0, ↓xR_x, ↓xR_call, ↓xR_lst, ↓xR_e, ↓xB_ret, ↓xB_iff, ↓xS_tryK, ↓xS_never, ↓xS_mv0, ↓xS_aug, ↓eF_l, noF_nil, noF_dat, noF_no, noF_lst, noF_dK, ↓sK_j, ↓xE_callS, ↓xE_lc, ↓xE_lc2, ↓xE_callL, ↓rvA_d, ↓tw2_t, ↓sN_0, ↓sN_s, ↓xE_lrg, ↓xE_trg, ↓xE_pop, ↓xE_idxL, ↓sT_s, ↓xE_idxT, ↓xE_dget, ↓xE_din, ↓xE_dnin, ↓xE_dset, ↓xE_dspV, ↓xE_dspC, ↓xE_dspM, ↓tE_d, ↓xI_rng3, ↓xA_nil, ↓xA_cons, ↓xT_te, ↓xT_tb, ↓xT_nt, ↓xT_an, ↓xT_or, ↓xT_yes, ↓xT_lend, ↓xP_no, ↓xP_at, ↓xI_rng1, ↓xI_rng2, ↓xI_u, ↓xI_en, ↓xI_enl, ↓xG_nm, ↓xG_tup, ↓xGs_nil, ↓xGs_cons, ↓sV_d, ↓sV_n, ↓sV_w, ↓rV_d, ↓rV_n, ↓rV_w, ↓rV_o, ↓xS_set, ↓xS_asg, ↓xS_seti, ↓xS_app, ↓xS_newD, ↓xS_dput, ↓xS_drop, ↓xS_dropX, ↓xS_raise, ↓xS_tryC, ↓xS_ret, ↓xS_retN, ↓xS_iff, ↓xS_for, ↓xS_wh, ↓xS_brk, ↓xS_cont, ↓xS_nx, ↓xS_seq, ↓xS_fz, ↓fzK_l, ↓fzK_d, ↓fzK_n, ↓fzK_D, ↓kS_nx, ↓kS_rt, ↓kS_bk, ↓kS_ct, ↓out1_rt, ↓out2_rt, ↓xE_allIn, ↓xE_inC, ↓xE_isB, ↓strD_s, ↓u_c_check_letters, ↓ln, d1, Bool.not_false, Bool.false_eq_true, Bool.false_and, ↓out3_exY, eRet]
  have d1 := decide_eq_true h1
  by_cases h2 : (L.length : Int) ≤ 4
  case neg =>
    have d2 := decide_eq_false h2
    simp (config := { implicitDefEqProofs := false }) (disch := walk_at "side") only [↓reduceIte, decide_eq_true_eq, decide_true, decide_false, Bool.not_true, Bool.not_false, Bool.false_eq_true, Int.reduceEq, Int.reduceLT, Int.reduceLE, Int.reduceNeg, Int.reduceToNat, ↓okI, ↓okI2, ↓aV_d, ↓aV_o, ↓aV_n, ↓aV_w, ↓dV_d, ↓dV_wD, ↓aV_wD, ↓dO_d, ↓kV_w, ↓xE_dinD, ↓xE_dninD, ↓xE_dgetD, ↓xE_fnv, ↓xE_callF, ↓xE_callE, ↓xE_isaT, ↓xE_dspb, ↓xI_ukd, ↓xS_retD, ↓xS_fzD, ↓fzKD_D, ↓fzKD_d, ↓dV_n, ↓dV_w, ↓gE_0, ↓gE_s, ↓eL_l, ↓eD_l, ↓eV_d, ↓eV_l, ↓nA_d, ↓nA_o, ↓iD_i, ↓bD_b, ↓kD_i, ↓kD_s, ↓zD_d, ↓vZ_d, ↓vZ_n, ↓sR_0, ↓sR_s, ↓sK_n, ↓sK_0, ↓lD_l, ↓sD_l, ↓sD_t, ↓tD_t, ↓dA_nil, ↓dA_d, ↓dN_nil, ↓dN_c, ↓oZ_addI, ↓oZ_addS, ↓oZ_addT, ↓oZ_addL, ↓oZ_sub, ↓oZ_mul, ↓oZ_mulT, ↓oZ_mulL, ↓oZ_fdiv, ↓oZ_mod, ↓oZ_pow, ↓oZ_eqI, ↓oZ_eqS, ↓oZ_neS, ↓oZ_neI, ↓oZ_lt, ↓oZ_le, ↓oZ_gt, ↓oZ_ge, ↓oZ_ixL, ↓oZ_ixT, ↓aI_0, ↓aI_1, ↓aI_2, ↓nI_0, ↓nI_1, ↓lS_0, ↓lS_s, ↓aI_int, ↓aI_str, ↓aI_row, ↓aI_b2, ↓aI_i1, ↓aI_i2, ↓aI_i3, ↓aI_i4, ↓aI_i5, ↓aI_i6, ↓oZ_abyz, ↓oZ_az, ↓cZ_lenLm, ↓cZ_lenTm, ↓cZ_lenP, ↓oZ_ixP, ↓sD_P, ↓cZ_lstP, ↓cZ_abs, ↓cZ_int, ↓cZ_intB, ↓cZ_tup, ↓cZ_lstL, ↓cZ_lstT, ↓cZ_all, ↓cZ_any, ↓cZ_max2, ↓cZ_min2, ↓cZ_sum, ↓cZ_sorted, ↓xE_int, ↓xE_bl, ↓xE_str, ↓xE_non, ↓xE_var, ↓xE_op, ↓xE_neg, ↓xE_nt, ↓xE_an, ↓xE_or, ↓xE_ch, ↓xE_isN, ↓xE_notN, ↓xE_ife, ↓xE_tup, ↓xE_lst, ↓xE_sl, ↓sl1_T, ↓sl1_L, ↓xE_cb, ↓xE_isa, ↓xE_call, ↓xE_callX, ↓xE_lget, ↓xE_srs, xE_revT, ↓xE_revL, ↓xE_sw, ↓s2D_s, ↓xB_sif, ↓xE_dget2, ↓xT_tl, ↓xI_ky, ↓xS_lk0, ↓xR_x, ↓xR_call, ↓xR_lst, ↓xR_e, ↓xB_ret, ↓xB_iff, ↓xS_tryK, ↓xS_never, ↓xS_mv0, ↓xS_aug, ↓eF_l, noF_nil, noF_dat, noF_no, noF_lst, noF_dK, ↓sK_j, ↓xE_callS, ↓xE_lc, ↓xE_lc2, ↓xE_callL, ↓rvA_d, ↓tw2_t, ↓sN_0, ↓sN_s, ↓xE_lrg, ↓xE_trg, ↓xE_pop, ↓xE_idxL, ↓sT_s, ↓xE_idxT, ↓xE_dget, ↓xE_din, ↓xE_dnin, ↓xE_dset, ↓xE_dspV, ↓xE_dspC, ↓xE_dspM, ↓tE_d, ↓xI_rng3, ↓xA_nil, ↓xA_cons, ↓xT_te, ↓xT_tb, ↓xT_nt, ↓xT_an, ↓xT_or, ↓xT_yes, ↓xT_lend, ↓xP_no, ↓xP_at, ↓xI_rng1, ↓xI_rng2, ↓xI_u, ↓xI_en, ↓xI_enl, ↓xG_nm, ↓xG_tup, ↓xGs_nil, ↓xGs_cons, ↓sV_d, ↓sV_n, ↓sV_w, ↓rV_d, ↓rV_n, ↓rV_w, ↓rV_o, ↓xS_set, ↓xS_asg, ↓xS_seti, ↓xS_app, ↓xS_newD, ↓xS_dput, ↓xS_drop, ↓xS_dropX, ↓xS_raise, ↓xS_tryC, ↓xS_ret, ↓xS_retN, ↓xS_iff, ↓xS_for, ↓xS_wh, ↓xS_brk, ↓xS_cont, ↓xS_nx, ↓xS_seq, ↓xS_fz, ↓fzK_l, ↓fzK_d, ↓fzK_n, ↓fzK_D, ↓kS_nx, ↓kS_rt, ↓kS_bk, ↓kS_ct, ↓out1_rt, ↓out2_rt, ↓xE_allIn, ↓xE_inC, ↓xE_isB, ↓strD_s, ↓u_c_check_letters, ↓ln, d1, d2, Bool.not_false, Bool.false_eq_true, Bool.and_false, Bool.false_and, ↓out3_exY, eRet]
  have d2 := decide_eq_true h2
  have en : enD (L.map PyData.str) = (List.range L.length).map fun i => PyData.tuple [.int (i : Nat), .str (L.getD i "")] := by
    unfold enD
    rw [List.length_map]
    refine List.map_congr_left fun i m => ?_
    have hi := List.mem_range.mp m
    unfold DL.pairD
    rw [nthD_map (f := PyData.str) "" hi]
  obtain ⟨ρ3, ⟨e1, e2, rfl⟩, L3⟩ := for_okY (f := trn [] (.tup 2 (.cons (.nm 1) (.cons (.nm 2) (.nil)))) (b_check_letters_1 X)) (fun i : Nat => PyData.tuple [.int (i : Nat), .str (L.getD i "")]) (fun ρ => ∃ e1 e2, ρ = [.dat (.tuple (L.map .str)), e1, e2]) (oneB L) (C := X.na) (l := List.range L.length) (ρ := [.dat (.tuple (L.map .str)), .no, .no]) ⟨_, _, rfl⟩ fun i m ρ ⟨e1, e2, hρ⟩ => by
    subst hρ
    have hi := List.mem_range.mp m
    have KW : ∀ {β : Type} (kv : Vl → Option β), cK f_is_word [.str (L.getD i "")] kv = kv (.d (.bool (wordB (L.getD i "")))) := fun kv => cK_s (is_word_eq (hL _ (by rw [List.getD_eq_getElem?_getD, List.getElem?_eq_getElem hi]; exact List.getElem_mem hi)))
    have ct : DL.cutD (L.map PyData.str) none (some ((i : Nat) : Int)) = (L.take i).map .str := by rw [cut_takeY, List.map_take]
    refine ⟨[.dat (.tuple (L.map .str)), .dat (.int (i : Nat)), .dat (.str (L.getD i ""))], ⟨_, _, rfl⟩, ?_⟩
    have f0 : ∀ x : Str, flatD (.str x) = true := fun _ => rfl
    have fl : ((L.take i).map PyData.str).all flatD = true := by rw [List.all_map]; exact List.all_eq_true.mpr fun _ _ => rfl
    rw [trn_x]
    unfold oneB
    generalize L.getD i "" = x at *
    have f1 := f0 x
    cases q : wordB x with
    | false =>
      rw [q] at KW
      simp (config := { implicitDefEqProofs := false }) (disch := walk_at "side") only [↓reduceIte, decide_eq_true_eq, decide_true, decide_false, Bool.not_true, Bool.not_false, Bool.false_eq_true, Int.reduceEq, Int.reduceLT, Int.reduceLE, Int.reduceNeg, Int.reduceToNat, ↓okI, ↓okI2, ↓aV_d, ↓aV_o, ↓aV_n, ↓aV_w, ↓dV_d, ↓dV_wD, ↓aV_wD, ↓dO_d, ↓kV_w, ↓xE_dinD, ↓xE_dninD, ↓xE_dgetD, ↓xE_fnv, ↓xE_callF, ↓xE_callE, ↓xE_isaT, ↓xE_dspb, ↓xI_ukd, ↓xS_retD, ↓xS_fzD, ↓fzKD_D, ↓fzKD_d, ↓dV_n, ↓dV_w, ↓gE_0, ↓gE_s, ↓eL_l, ↓eD_l, ↓eV_d, ↓eV_l, ↓nA_d, ↓nA_o, ↓iD_i, ↓bD_b, ↓kD_i, ↓kD_s, ↓zD_d, ↓vZ_d, ↓vZ_n, ↓sR_0, ↓sR_s, ↓sK_n, ↓sK_0, ↓lD_l, ↓sD_l, ↓sD_t, ↓tD_t, ↓dA_nil, ↓dA_d, ↓dN_nil, ↓dN_c, ↓oZ_addI, ↓oZ_addS, ↓oZ_addT, ↓oZ_addL, ↓oZ_sub, ↓oZ_mul, ↓oZ_mulT, ↓oZ_mulL, ↓oZ_fdiv, ↓oZ_mod, ↓oZ_pow, ↓oZ_eqI, ↓oZ_eqS, ↓oZ_neS, ↓oZ_neI, ↓oZ_lt, ↓oZ_le, ↓oZ_gt, ↓oZ_ge, ↓oZ_ixL, ↓oZ_ixT, ↓aI_0, ↓aI_1, ↓aI_2, ↓nI_0, ↓nI_1, ↓lS_0, ↓lS_s, ↓aI_int, ↓aI_str, ↓aI_row, ↓aI_b2, ↓aI_i1, ↓aI_i2, ↓aI_i3, ↓aI_i4, ↓aI_i5, ↓aI_i6, ↓oZ_abyz, ↓oZ_az, ↓cZ_lenLm, ↓cZ_lenTm, ↓cZ_lenP, ↓oZ_ixP, ↓sD_P, ↓cZ_lstP, ↓cZ_abs, ↓cZ_int, ↓cZ_intB, ↓cZ_tup, ↓cZ_lstL, ↓cZ_lstT, ↓cZ_all, ↓cZ_any, ↓cZ_max2, ↓cZ_min2, ↓cZ_sum, ↓cZ_sorted, ↓xE_int, ↓xE_bl, ↓xE_str, ↓xE_non, ↓xE_var, ↓xE_op, ↓xE_neg, ↓xE_nt, ↓xE_an, ↓xE_or, ↓xE_ch, ↓xE_isN, ↓xE_notN, ↓xE_ife, ↓xE_tup, ↓xE_lst, ↓xE_sl, ↓sl1_T, ↓sl1_L, ↓xE_cb, ↓xE_isa, ↓xE_call, ↓xE_callX, ↓xE_lget, ↓xE_srs, xE_revT, ↓xE_revL, ↓xE_sw, ↓s2D_s, ↓xB_sif, ↓xE_dget2, ↓xT_tl, ↓xI_ky, ↓xS_lk0, ↓xR_x, ↓xR_call, ↓xR_lst, ↓xR_e, ↓xB_ret, ↓xB_iff, ↓xS_tryK, ↓xS_never, ↓xS_mv0, ↓xS_aug, ↓eF_l, noF_nil, noF_dat, noF_no, noF_lst, noF_dK, ↓sK_j, ↓xE_callS, ↓xE_lc, ↓xE_lc2, ↓xE_callL, ↓rvA_d, ↓tw2_t, ↓sN_0, ↓sN_s, ↓xE_lrg, ↓xE_trg, ↓xE_pop, ↓xE_idxL, ↓sT_s, ↓xE_idxT, ↓xE_dget, ↓xE_din, ↓xE_dnin, ↓xE_dset, ↓xE_dspV, ↓xE_dspC, ↓xE_dspM, ↓tE_d, ↓xI_rng3, ↓xA_nil, ↓xA_cons, ↓xT_te, ↓xT_tb, ↓xT_nt, ↓xT_an, ↓xT_or, ↓xT_yes, ↓xT_lend, ↓xP_no, ↓xP_at, ↓xI_rng1, ↓xI_rng2, ↓xI_u, ↓xI_en, ↓xI_enl, ↓xG_nm, ↓xG_tup, ↓xGs_nil, ↓xGs_cons, ↓sV_d, ↓sV_n, ↓sV_w, ↓rV_d, ↓rV_n, ↓rV_w, ↓rV_o, ↓xS_set, ↓xS_asg, ↓xS_seti, ↓xS_app, ↓xS_newD, ↓xS_dput, ↓xS_drop, ↓xS_dropX, ↓xS_raise, ↓xS_tryC, ↓xS_ret, ↓xS_retN, ↓xS_iff, ↓xS_for, ↓xS_wh, ↓xS_brk, ↓xS_cont, ↓xS_nx, ↓xS_seq, ↓xS_fz, ↓fzK_l, ↓fzK_d, ↓fzK_n, ↓fzK_D, ↓kS_nx, ↓kS_rt, ↓kS_bk, ↓kS_ct, ↓out1_rt, ↓out2_rt, ↓xE_allIn, ↓xE_inC, ↓xE_isB, ↓strD_s, ↓u_b_check_letters_1, ↓KW, Bool.not_false, Bool.false_eq_true, Bool.false_and]
    | true =>
      rw [q] at KW
      by_cases h : x ∈ L.take i
      · have d := decide_eq_true h
        simp (config := { implicitDefEqProofs := false }) (disch := walk_at "side") only [↓reduceIte, decide_eq_true_eq, decide_true, decide_false, Bool.not_true, Bool.not_false, Bool.false_eq_true, Int.reduceEq, Int.reduceLT, Int.reduceLE, Int.reduceNeg, Int.reduceToNat, ↓okI, ↓okI2, ↓aV_d, ↓aV_o, ↓aV_n, ↓aV_w, ↓dV_d, ↓dV_wD, ↓aV_wD, ↓dO_d, ↓kV_w, ↓xE_dinD, ↓xE_dninD, ↓xE_dgetD, ↓xE_fnv, ↓xE_callF, ↓xE_callE, ↓xE_isaT, ↓xE_dspb, ↓xI_ukd, ↓xS_retD, ↓xS_fzD, ↓fzKD_D, ↓fzKD_d, ↓dV_n, ↓dV_w, ↓gE_0, ↓gE_s, ↓eL_l, ↓eD_l, ↓eV_d, ↓eV_l, ↓nA_d, ↓nA_o, ↓iD_i, ↓bD_b, ↓kD_i, ↓kD_s, ↓zD_d, ↓vZ_d, ↓vZ_n, ↓sR_0, ↓sR_s, ↓sK_n, ↓sK_0, ↓lD_l, ↓sD_l, ↓sD_t, ↓tD_t, ↓dA_nil, ↓dA_d, ↓dN_nil, ↓dN_c, ↓oZ_addI, ↓oZ_addS, ↓oZ_addT, ↓oZ_addL, ↓oZ_sub, ↓oZ_mul, ↓oZ_mulT, ↓oZ_mulL, ↓oZ_fdiv, ↓oZ_mod, ↓oZ_pow, ↓oZ_eqI, ↓oZ_eqS, ↓oZ_neS, ↓oZ_neI, ↓oZ_lt, ↓oZ_le, ↓oZ_gt, ↓oZ_ge, ↓oZ_ixL, ↓oZ_ixT, ↓aI_0, ↓aI_1, ↓aI_2, ↓nI_0, ↓nI_1, ↓lS_0, ↓lS_s, ↓aI_int, ↓aI_str, ↓aI_row, ↓aI_b2, ↓aI_i1, ↓aI_i2, ↓aI_i3, ↓aI_i4, ↓aI_i5, ↓aI_i6, ↓oZ_abyz, ↓oZ_az, ↓cZ_lenLm, ↓cZ_lenTm, ↓cZ_lenP, ↓oZ_ixP, ↓sD_P, ↓cZ_lstP, ↓cZ_abs, ↓cZ_int, ↓cZ_intB, ↓cZ_tup, ↓cZ_lstL, ↓cZ_lstT, ↓cZ_all, ↓cZ_any, ↓cZ_max2, ↓cZ_min2, ↓cZ_sum, ↓cZ_sorted, ↓xE_int, ↓xE_bl, ↓xE_str, ↓xE_non, ↓xE_var, ↓xE_op, ↓xE_neg, ↓xE_nt, ↓xE_an, ↓xE_or, ↓xE_ch, ↓xE_isN, ↓xE_notN, ↓xE_ife, ↓xE_tup, ↓xE_lst, ↓xE_sl, ↓sl1_T, ↓sl1_L, ↓xE_cb, ↓xE_isa, ↓xE_call, ↓xE_callX, ↓xE_lget, ↓xE_srs, xE_revT, ↓xE_revL, ↓xE_sw, ↓s2D_s, ↓xB_sif, ↓xE_dget2, ↓xT_tl, ↓xI_ky, ↓xS_lk0, ↓xR_x, ↓xR_call, ↓xR_lst, ↓xR_e, ↓xB_ret, ↓xB_iff, ↓xS_tryK, ↓xS_never, ↓xS_mv0, ↓xS_aug, ↓eF_l, noF_nil, noF_dat, noF_no, noF_lst, noF_dK, ↓sK_j, ↓xE_callS, ↓xE_lc, ↓xE_lc2, ↓xE_callL, ↓rvA_d, ↓tw2_t, ↓sN_0, ↓sN_s, ↓xE_lrg, ↓xE_trg, ↓xE_pop, ↓xE_idxL, ↓sT_s, ↓xE_idxT, ↓xE_dget, ↓xE_din, ↓xE_dnin, ↓xE_dset, ↓xE_dspV, ↓xE_dspC, ↓xE_dspM, ↓tE_d, ↓xI_rng3, ↓xA_nil, ↓xA_cons, ↓xT_te, ↓xT_tb, ↓xT_nt, ↓xT_an, ↓xT_or, ↓xT_yes, ↓xT_lend, ↓xP_no, ↓xP_at, ↓xI_rng1, ↓xI_rng2, ↓xI_u, ↓xI_en, ↓xI_enl, ↓xG_nm, ↓xG_tup, ↓xGs_nil, ↓xGs_cons, ↓sV_d, ↓sV_n, ↓sV_w, ↓rV_d, ↓rV_n, ↓rV_w, ↓rV_o, ↓xS_set, ↓xS_asg, ↓xS_seti, ↓xS_app, ↓xS_newD, ↓xS_dput, ↓xS_drop, ↓xS_dropX, ↓xS_raise, ↓xS_tryC, ↓xS_ret, ↓xS_retN, ↓xS_iff, ↓xS_for, ↓xS_wh, ↓xS_brk, ↓xS_cont, ↓xS_nx, ↓xS_seq, ↓xS_fz, ↓fzK_l, ↓fzK_d, ↓fzK_n, ↓fzK_D, ↓kS_nx, ↓kS_rt, ↓kS_bk, ↓kS_ct, ↓out1_rt, ↓out2_rt, ↓xE_allIn, ↓xE_inC, ↓xE_isB, ↓strD_s, ↓u_b_check_letters_1, ↓KW, Bool.not_true, Bool.false_eq_true, Bool.true_and, ct, ↓oZ_inT, inD_strs, d]
      · have d := decide_eq_false h
        simp (config := { implicitDefEqProofs := false }) (disch := walk_at "side") only [↓reduceIte, decide_eq_true_eq, decide_true, decide_false, Bool.not_true, Bool.not_false, Bool.false_eq_true, Int.reduceEq, Int.reduceLT, Int.reduceLE, Int.reduceNeg, Int.reduceToNat, ↓okI, ↓okI2, ↓aV_d, ↓aV_o, ↓aV_n, ↓aV_w, ↓dV_d, ↓dV_wD, ↓aV_wD, ↓dO_d, ↓kV_w, ↓xE_dinD, ↓xE_dninD, ↓xE_dgetD, ↓xE_fnv, ↓xE_callF, ↓xE_callE, ↓xE_isaT, ↓xE_dspb, ↓xI_ukd, ↓xS_retD, ↓xS_fzD, ↓fzKD_D, ↓fzKD_d, ↓dV_n, ↓dV_w, ↓gE_0, ↓gE_s, ↓eL_l, ↓eD_l, ↓eV_d, ↓eV_l, ↓nA_d, ↓nA_o, ↓iD_i, ↓bD_b, ↓kD_i, ↓kD_s, ↓zD_d, ↓vZ_d, ↓vZ_n, ↓sR_0, ↓sR_s, ↓sK_n, ↓sK_0, ↓lD_l, ↓sD_l, ↓sD_t, ↓tD_t, ↓dA_nil, ↓dA_d, ↓dN_nil, ↓dN_c, ↓oZ_addI, ↓oZ_addS, ↓oZ_addT, ↓oZ_addL, ↓oZ_sub, ↓oZ_mul, ↓oZ_mulT, ↓oZ_mulL, ↓oZ_fdiv, ↓oZ_mod, ↓oZ_pow, ↓oZ_eqI, ↓oZ_eqS, ↓oZ_neS, ↓oZ_neI, ↓oZ_lt, ↓oZ_le, ↓oZ_gt, ↓oZ_ge, ↓oZ_ixL, ↓oZ_ixT, ↓aI_0, ↓aI_1, ↓aI_2, ↓nI_0, ↓nI_1, ↓lS_0, ↓lS_s, ↓aI_int, ↓aI_str, ↓aI_row, ↓aI_b2, ↓aI_i1, ↓aI_i2, ↓aI_i3, ↓aI_i4, ↓aI_i5, ↓aI_i6, ↓oZ_abyz, ↓oZ_az, ↓cZ_lenLm, ↓cZ_lenTm, ↓cZ_lenP, ↓oZ_ixP, ↓sD_P, ↓cZ_lstP, ↓cZ_abs, ↓cZ_int, ↓cZ_intB, ↓cZ_tup, ↓cZ_lstL, ↓cZ_lstT, ↓cZ_all, ↓cZ_any, ↓cZ_max2, ↓cZ_min2, ↓cZ_sum, ↓cZ_sorted, ↓xE_int, ↓xE_bl, ↓xE_str, ↓xE_non, ↓xE_var, ↓xE_op, ↓xE_neg, ↓xE_nt, ↓xE_an, ↓xE_or, ↓xE_ch, ↓xE_isN, ↓xE_notN, ↓xE_ife, ↓xE_tup, ↓xE_lst, ↓xE_sl, ↓sl1_T, ↓sl1_L, ↓xE_cb, ↓xE_isa, ↓xE_call, ↓xE_callX, ↓xE_lget, ↓xE_srs, xE_revT, ↓xE_revL, ↓xE_sw, ↓s2D_s, ↓xB_sif, ↓xE_dget2, ↓xT_tl, ↓xI_ky, ↓xS_lk0, ↓xR_x, ↓xR_call, ↓xR_lst, ↓xR_e, ↓xB_ret, ↓xB_iff, ↓xS_tryK, ↓xS_never, ↓xS_mv0, ↓xS_aug, ↓eF_l, noF_nil, noF_dat, noF_no, noF_lst, noF_dK, ↓sK_j, ↓xE_callS, ↓xE_lc, ↓xE_lc2, ↓xE_callL, ↓rvA_d, ↓tw2_t, ↓sN_0, ↓sN_s, ↓xE_lrg, ↓xE_trg, ↓xE_pop, ↓xE_idxL, ↓sT_s, ↓xE_idxT, ↓xE_dget, ↓xE_din, ↓xE_dnin, ↓xE_dset, ↓xE_dspV, ↓xE_dspC, ↓xE_dspM, ↓tE_d, ↓xI_rng3, ↓xA_nil, ↓xA_cons, ↓xT_te, ↓xT_tb, ↓xT_nt, ↓xT_an, ↓xT_or, ↓xT_yes, ↓xT_lend, ↓xP_no, ↓xP_at, ↓xI_rng1, ↓xI_rng2, ↓xI_u, ↓xI_en, ↓xI_enl, ↓xG_nm, ↓xG_tup, ↓xGs_nil, ↓xGs_cons, ↓sV_d, ↓sV_n, ↓sV_w, ↓rV_d, ↓rV_n, ↓rV_w, ↓rV_o, ↓xS_set, ↓xS_asg, ↓xS_seti, ↓xS_app, ↓xS_newD, ↓xS_dput, ↓xS_drop, ↓xS_dropX, ↓xS_raise, ↓xS_tryC, ↓xS_ret, ↓xS_retN, ↓xS_iff, ↓xS_for, ↓xS_wh, ↓xS_brk, ↓xS_cont, ↓xS_nx, ↓xS_seq, ↓xS_fz, ↓fzK_l, ↓fzK_d, ↓fzK_n, ↓fzK_D, ↓kS_nx, ↓kS_rt, ↓kS_bk, ↓kS_ct, ↓out1_rt, ↓out2_rt, ↓xE_allIn, ↓xE_inC, ↓xE_isB, ↓strD_s, ↓u_b_check_letters_1, ↓KW, Bool.not_true, Bool.not_false, Bool.false_eq_true, Bool.true_and, ct, ↓oZ_inT, inD_strs, d]
  rw [← en] at L3
  by_cases h3 : (List.range L.length).all (oneB L) = true
  · rw [if_pos h3] at L3
    rw [h3]
    simp (config := { implicitDefEqProofs := false }) (disch := walk_at "side") only [↓reduceIte, decide_eq_true_eq, decide_true, decide_false, Bool.not_true, Bool.not_false, Bool.false_eq_true, Int.reduceEq, Int.reduceLT, Int.reduceLE, Int.reduceNeg, Int.reduceToNat, ↓okI, ↓okI2, ↓aV_d, ↓aV_o, ↓aV_n, ↓aV_w, ↓dV_d, ↓dV_wD, ↓aV_wD, ↓dO_d, ↓kV_w, ↓xE_dinD, ↓xE_dninD, ↓xE_dgetD, ↓xE_fnv, ↓xE_callF, ↓xE_callE, ↓xE_isaT, ↓xE_dspb, ↓xI_ukd, ↓xS_retD, ↓xS_fzD, ↓fzKD_D, ↓fzKD_d, ↓dV_n, ↓dV_w, ↓gE_0, ↓gE_s, ↓eL_l, ↓eD_l, ↓eV_d, ↓eV_l, ↓nA_d, ↓nA_o, ↓iD_i, ↓bD_b, ↓kD_i, ↓kD_s, ↓zD_d, ↓vZ_d, ↓vZ_n, ↓sR_0, ↓sR_s, ↓sK_n, ↓sK_0, ↓lD_l, ↓sD_l, ↓sD_t, ↓tD_t, ↓dA_nil, ↓dA_d, ↓dN_nil, ↓dN_c, ↓oZ_addI, ↓oZ_addS, ↓oZ_addT, ↓oZ_addL, ↓oZ_sub, ↓oZ_mul, ↓oZ_mulT, ↓oZ_mulL, ↓oZ_fdiv, ↓oZ_mod, ↓oZ_pow, ↓oZ_eqI, ↓oZ_eqS, ↓oZ_neS, ↓oZ_neI, ↓oZ_lt, ↓oZ_le, ↓oZ_gt, ↓oZ_ge, ↓oZ_ixL, ↓oZ_ixT, ↓aI_0, ↓aI_1, ↓aI_2, ↓nI_0, ↓nI_1, ↓lS_0, ↓lS_s, ↓aI_int, ↓aI_str, ↓aI_row, ↓aI_b2, ↓aI_i1, ↓aI_i2, ↓aI_i3, ↓aI_i4, ↓aI_i5, ↓aI_i6, ↓oZ_abyz, ↓oZ_az, ↓cZ_lenLm, ↓cZ_lenTm, ↓cZ_lenP, ↓oZ_ixP, ↓sD_P, ↓cZ_lstP, ↓cZ_abs, ↓cZ_int, ↓cZ_intB, ↓cZ_tup, ↓cZ_lstL, ↓cZ_lstT, ↓cZ_all, ↓cZ_any, ↓cZ_max2, ↓cZ_min2, ↓cZ_sum, ↓cZ_sorted, ↓xE_int, ↓xE_bl, ↓xE_str, ↓xE_non, ↓xE_var, ↓xE_op, ↓xE_neg, ↓xE_nt, ↓xE_an, ↓xE_or, ↓xE_ch, ↓xE_isN, ↓xE_notN, ↓xE_ife, ↓xE_tup, ↓xE_lst, ↓xE_sl, ↓sl1_T, ↓sl1_L, ↓xE_cb, ↓xE_isa, ↓xE_call, ↓xE_callX, ↓xE_lget, ↓xE_srs, xE_revT, ↓xE_revL, ↓xE_sw, ↓s2D_s, ↓xB_sif, ↓xE_dget2, ↓xT_tl, ↓xI_ky, ↓xS_lk0, ↓xR_x, ↓xR_call, ↓xR_lst, ↓xR_e, ↓xB_ret, ↓xB_iff, ↓xS_tryK, ↓xS_never, ↓xS_mv0, ↓xS_aug, ↓eF_l, noF_nil, noF_dat, noF_no, noF_lst, noF_dK, ↓sK_j, ↓xE_callS, ↓xE_lc, ↓xE_lc2, ↓xE_callL, ↓rvA_d, ↓tw2_t, ↓sN_0, ↓sN_s, ↓xE_lrg, ↓xE_trg, ↓xE_pop, ↓xE_idxL, ↓sT_s, ↓xE_idxT, ↓xE_dget, ↓xE_din, ↓xE_dnin, ↓xE_dset, ↓xE_dspV, ↓xE_dspC, ↓xE_dspM, ↓tE_d, ↓xI_rng3, ↓xA_nil, ↓xA_cons, ↓xT_te, ↓xT_tb, ↓xT_nt, ↓xT_an, ↓xT_or, ↓xT_yes, ↓xT_lend, ↓xP_no, ↓xP_at, ↓xI_rng1, ↓xI_rng2, ↓xI_u, ↓xI_en, ↓xI_enl, ↓xG_nm, ↓xG_tup, ↓xGs_nil, ↓xGs_cons, ↓sV_d, ↓sV_n, ↓sV_w, ↓rV_d, ↓rV_n, ↓rV_w, ↓rV_o, ↓xS_set, ↓xS_asg, ↓xS_seti, ↓xS_app, ↓xS_newD, ↓xS_dput, ↓xS_drop, ↓xS_dropX, ↓xS_raise, ↓xS_tryC, ↓xS_ret, ↓xS_retN, ↓xS_iff, ↓xS_for, ↓xS_wh, ↓xS_brk, ↓xS_cont, ↓xS_nx, ↓xS_seq, ↓xS_fz, ↓fzK_l, ↓fzK_d, ↓fzK_n, ↓fzK_D, ↓kS_nx, ↓kS_rt, ↓kS_bk, ↓kS_ct, ↓out1_rt, ↓out2_rt, ↓xE_allIn, ↓xE_inC, ↓xE_isB, ↓strD_s, ↓u_c_check_letters, ↓ln, d1, d2, Bool.not_true, Bool.false_eq_true, Bool.and_self, ↓fK_s L3, eRet]
  · rw [if_neg h3] at L3
    rw [(Bool.not_eq_true _).mp h3]
    simp (config := { implicitDefEqProofs := false }) (disch := walk_at "side") only [↓reduceIte, decide_eq_true_eq, decide_true, decide_false, Bool.not_true, Bool.not_false, Bool.false_eq_true, Int.reduceEq, Int.reduceLT, Int.reduceLE, Int.reduceNeg, Int.reduceToNat, ↓okI, ↓okI2, ↓aV_d, ↓aV_o, ↓aV_n, ↓aV_w, ↓dV_d, ↓dV_wD, ↓aV_wD, ↓dO_d, ↓kV_w, ↓xE_dinD, ↓xE_dninD, ↓xE_dgetD, ↓xE_fnv, ↓xE_callF, ↓xE_callE, ↓xE_isaT, ↓xE_dspb, ↓xI_ukd, ↓xS_retD, ↓xS_fzD, ↓fzKD_D, ↓fzKD_d, ↓dV_n, ↓dV_w, ↓gE_0, ↓gE_s, ↓eL_l, ↓eD_l, ↓eV_d, ↓eV_l, ↓nA_d, ↓nA_o, ↓iD_i, ↓bD_b, ↓kD_i, ↓kD_s, ↓zD_d, ↓vZ_d, ↓vZ_n, ↓sR_0, ↓sR_s, ↓sK_n, ↓sK_0, ↓lD_l, ↓sD_l, ↓sD_t, ↓tD_t, ↓dA_nil, ↓dA_d, ↓dN_nil, ↓dN_c, ↓oZ_addI, ↓oZ_addS, ↓oZ_addT, ↓oZ_addL, ↓oZ_sub, ↓oZ_mul, ↓oZ_mulT, ↓oZ_mulL, ↓oZ_fdiv, ↓oZ_mod, ↓oZ_pow, ↓oZ_eqI, ↓oZ_eqS, ↓oZ_neS, ↓oZ_neI, ↓oZ_lt, ↓oZ_le, ↓oZ_gt, ↓oZ_ge, ↓oZ_ixL, ↓oZ_ixT, ↓aI_0, ↓aI_1, ↓aI_2, ↓nI_0, ↓nI_1, ↓lS_0, ↓lS_s, ↓aI_int, ↓aI_str, ↓aI_row, ↓aI_b2, ↓aI_i1, ↓aI_i2, ↓aI_i3, ↓aI_i4, ↓aI_i5, ↓aI_i6, ↓oZ_abyz, ↓oZ_az, ↓cZ_lenLm, ↓cZ_lenTm, ↓cZ_lenP, ↓oZ_ixP, ↓sD_P, ↓cZ_lstP, ↓cZ_abs, ↓cZ_int, ↓cZ_intB, ↓cZ_tup, ↓cZ_lstL, ↓cZ_lstT, ↓cZ_all, ↓cZ_any, ↓cZ_max2, ↓cZ_min2, ↓cZ_sum, ↓cZ_sorted, ↓xE_int, ↓xE_bl, ↓xE_str, ↓xE_non, ↓xE_var, ↓xE_op, ↓xE_neg, ↓xE_nt, ↓xE_an, ↓xE_or, ↓xE_ch, ↓xE_isN, ↓xE_notN, ↓xE_ife, ↓xE_tup, ↓xE_lst, ↓xE_sl, ↓sl1_T, ↓sl1_L, ↓xE_cb, ↓xE_isa, ↓xE_call, ↓xE_callX, ↓xE_lget, ↓xE_srs, xE_revT, ↓xE_revL, ↓xE_sw, ↓s2D_s, ↓xB_sif, ↓xE_dget2, ↓xT_tl, ↓xI_ky, ↓xS_lk0, ↓xR_x, ↓xR_call, ↓xR_lst, ↓xR_e, ↓xB_ret, ↓xB_iff, ↓xS_tryK, ↓xS_never, ↓xS_mv0, ↓xS_aug, ↓eF_l, noF_nil, noF_dat, noF_no, noF_lst, noF_dK, ↓sK_j, ↓xE_callS, ↓xE_lc, ↓xE_lc2, ↓xE_callL, ↓rvA_d, ↓tw2_t, ↓sN_0, ↓sN_s, ↓xE_lrg, ↓xE_trg, ↓xE_pop, ↓xE_idxL, ↓sT_s, ↓xE_idxT, ↓xE_dget, ↓xE_din, ↓xE_dnin, ↓xE_dset, ↓xE_dspV, ↓xE_dspC, ↓xE_dspM, ↓tE_d, ↓xI_rng3, ↓xA_nil, ↓xA_cons, ↓xT_te, ↓xT_tb, ↓xT_nt, ↓xT_an, ↓xT_or, ↓xT_yes, ↓xT_lend, ↓xP_no, ↓xP_at, ↓xI_rng1, ↓xI_rng2, ↓xI_u, ↓xI_en, ↓xI_enl, ↓xG_nm, ↓xG_tup, ↓xGs_nil, ↓xGs_cons, ↓sV_d, ↓sV_n, ↓sV_w, ↓rV_d, ↓rV_n, ↓rV_w, ↓rV_o, ↓xS_set, ↓xS_asg, ↓xS_seti, ↓xS_app, ↓xS_newD, ↓xS_dput, ↓xS_drop, ↓xS_dropX, ↓xS_raise, ↓xS_tryC, ↓xS_ret, ↓xS_retN, ↓xS_iff, ↓xS_for, ↓xS_wh, ↓xS_brk, ↓xS_cont, ↓xS_nx, ↓xS_seq, ↓xS_fz, ↓fzK_l, ↓fzK_d, ↓fzK_n, ↓fzK_D, ↓kS_nx, ↓kS_rt, ↓kS_bk, ↓kS_ct, ↓out1_rt, ↓out2_rt, ↓xE_allIn, ↓xE_inC, ↓xE_isB, ↓strD_s, ↓u_c_check_letters, ↓ln, d1, d2, Bool.not_true, Bool.false_eq_true, Bool.and_self, Bool.and_false, ↓fK_s L3, ↓kS_exY, ↓out3_exY, eRet]
theorem check_rooms_eq {X : Cl} {c : List Int} {n : Nat} : f_check_rooms X [tupI c, .int (n : Nat)] = some (eRet X (c.all (roomB n))) := by
  obtain ⟨ρ3, ⟨e1, rfl⟩, L3⟩ := for_okY (f := trn [] (.nm 2) (b_check_rooms_1 X)) PyData.int (fun ρ => ∃ e1, ρ = [.dat (tupI c), .dat (.int (n : Nat)), e1]) (roomB n) (C := X.na) (l := c) (ρ := [.dat (tupI c), .dat (.int (n : Nat)), .no]) ⟨_, rfl⟩ fun x m ρ ⟨e1, hρ⟩ => by
    subst hρ
    refine ⟨[.dat (tupI c), .dat (.int (n : Nat)), .dat (.int x)], ⟨_, rfl⟩, ?_⟩
    rw [trn_x]
    unfold roomB
    by_cases q0 : 0 ≤ x
    · have d1 := decide_eq_true q0
      by_cases q1 : x < (n : Int)
      · have d2 := decide_eq_true q1
        simp (config := { implicitDefEqProofs := false }) (disch := walk_at "side") only [↓reduceIte, decide_eq_true_eq, decide_true, decide_false, Bool.not_true, Bool.not_false, Bool.false_eq_true, Int.reduceEq, Int.reduceLT, Int.reduceLE, Int.reduceNeg, Int.reduceToNat, ↓okI, ↓okI2, ↓aV_d, ↓aV_o, ↓aV_n, ↓aV_w, ↓dV_d, ↓dV_wD, ↓aV_wD, ↓dO_d, ↓kV_w, ↓xE_dinD, ↓xE_dninD, ↓xE_dgetD, ↓xE_fnv, ↓xE_callF, ↓xE_callE, ↓xE_isaT, ↓xE_dspb, ↓xI_ukd, ↓xS_retD, ↓xS_fzD, ↓fzKD_D, ↓fzKD_d, ↓dV_n, ↓dV_w, ↓gE_0, ↓gE_s, ↓eL_l, ↓eD_l, ↓eV_d, ↓eV_l, ↓nA_d, ↓nA_o, ↓iD_i, ↓bD_b, ↓kD_i, ↓kD_s, ↓zD_d, ↓vZ_d, ↓vZ_n, ↓sR_0, ↓sR_s, ↓sK_n, ↓sK_0, ↓lD_l, ↓sD_l, ↓sD_t, ↓tD_t, ↓dA_nil, ↓dA_d, ↓dN_nil, ↓dN_c, ↓oZ_addI, ↓oZ_addS, ↓oZ_addT, ↓oZ_addL, ↓oZ_sub, ↓oZ_mul, ↓oZ_mulT, ↓oZ_mulL, ↓oZ_fdiv, ↓oZ_mod, ↓oZ_pow, ↓oZ_eqI, ↓oZ_eqS, ↓oZ_neS, ↓oZ_neI, ↓oZ_lt, ↓oZ_le, ↓oZ_gt, ↓oZ_ge, ↓oZ_ixL, ↓oZ_ixT, ↓aI_0, ↓aI_1, ↓aI_2, ↓nI_0, ↓nI_1, ↓lS_0, ↓lS_s, ↓aI_int, ↓aI_str, ↓aI_row, ↓aI_b2, ↓aI_i1, ↓aI_i2, ↓aI_i3, ↓aI_i4, ↓aI_i5, ↓aI_i6, ↓oZ_abyz, ↓oZ_az, ↓cZ_lenLm, ↓cZ_lenTm, ↓cZ_lenP, ↓oZ_ixP, ↓sD_P, ↓cZ_lstP, ↓cZ_abs, ↓cZ_int, ↓cZ_intB, ↓cZ_tup, ↓cZ_lstL, ↓cZ_lstT, ↓cZ_all, ↓cZ_any, ↓cZ_max2, ↓cZ_min2, ↓cZ_sum, ↓cZ_sorted, ↓xE_int, ↓xE_bl, ↓xE_str, ↓xE_non, ↓xE_var, ↓xE_op, ↓xE_neg, ↓xE_nt, ↓xE_an, ↓xE_or, ↓xE_ch, ↓xE_isN, ↓xE_notN, ↓xE_ife, ↓xE_tup, ↓xE_lst, ↓xE_sl, ↓sl1_T, ↓sl1_L, ↓xE_cb, ↓xE_isa, ↓xE_call, ↓xE_callX, ↓xE_lget, ↓xE_srs, xE_revT, ↓xE_revL, ↓xE_sw, ↓s2D_s, ↓xB_sif, ↓xE_dget2, ↓xT_tl, ↓xI_ky, ↓xS_lk0, ↓xR_x, ↓xR_call, ↓xR_lst, ↓xR_e, ↓xB_ret, ↓xB_iff, ↓xS_tryK, ↓xS_never, ↓xS_mv0, ↓xS_aug, ↓eF_l, noF_nil, noF_dat, noF_no, noF_lst, noF_dK, ↓sK_j, ↓xE_callS, ↓xE_lc, ↓xE_lc2, ↓xE_callL, ↓rvA_d, ↓tw2_t, ↓sN_0, ↓sN_s, ↓xE_lrg, ↓xE_trg, ↓xE_pop, ↓xE_idxL, ↓sT_s, ↓xE_idxT, ↓xE_dget, ↓xE_din, ↓xE_dnin, ↓xE_dset, ↓xE_dspV, ↓xE_dspC, ↓xE_dspM, ↓tE_d, ↓xI_rng3, ↓xA_nil, ↓xA_cons, ↓xT_te, ↓xT_tb, ↓xT_nt, ↓xT_an, ↓xT_or, ↓xT_yes, ↓xT_lend, ↓xP_no, ↓xP_at, ↓xI_rng1, ↓xI_rng2, ↓xI_u, ↓xI_en, ↓xI_enl, ↓xG_nm, ↓xG_tup, ↓xGs_nil, ↓xGs_cons, ↓sV_d, ↓sV_n, ↓sV_w, ↓rV_d, ↓rV_n, ↓rV_w, ↓rV_o, ↓xS_set, ↓xS_asg, ↓xS_seti, ↓xS_app, ↓xS_newD, ↓xS_dput, ↓xS_drop, ↓xS_dropX, ↓xS_raise, ↓xS_tryC, ↓xS_ret, ↓xS_retN, ↓xS_iff, ↓xS_for, ↓xS_wh, ↓xS_brk, ↓xS_cont, ↓xS_nx, ↓xS_seq, ↓xS_fz, ↓fzK_l, ↓fzK_d, ↓fzK_n, ↓fzK_D, ↓kS_nx, ↓kS_rt, ↓kS_bk, ↓kS_ct, ↓out1_rt, ↓out2_rt, ↓xE_allIn, ↓xE_inC, ↓xE_isB, ↓strD_s, ↓u_b_check_rooms_1, d1, d2, Bool.and_self, Bool.not_true, Bool.false_eq_true]
      · have d2 := decide_eq_false q1
        simp (config := { implicitDefEqProofs := false }) (disch := walk_at "side") only [↓reduceIte, decide_eq_true_eq, decide_true, decide_false, Bool.not_true, Bool.not_false, Bool.false_eq_true, Int.reduceEq, Int.reduceLT, Int.reduceLE, Int.reduceNeg, Int.reduceToNat, ↓okI, ↓okI2, ↓aV_d, ↓aV_o, ↓aV_n, ↓aV_w, ↓dV_d, ↓dV_wD, ↓aV_wD, ↓dO_d, ↓kV_w, ↓xE_dinD, ↓xE_dninD, ↓xE_dgetD, ↓xE_fnv, ↓xE_callF, ↓xE_callE, ↓xE_isaT, ↓xE_dspb, ↓xI_ukd, ↓xS_retD, ↓xS_fzD, ↓fzKD_D, ↓fzKD_d, ↓dV_n, ↓dV_w, ↓gE_0, ↓gE_s, ↓eL_l, ↓eD_l, ↓eV_d, ↓eV_l, ↓nA_d, ↓nA_o, ↓iD_i, ↓bD_b, ↓kD_i, ↓kD_s, ↓zD_d, ↓vZ_d, ↓vZ_n, ↓sR_0, ↓sR_s, ↓sK_n, ↓sK_0, ↓lD_l, ↓sD_l, ↓sD_t, ↓tD_t, ↓dA_nil, ↓dA_d, ↓dN_nil, ↓dN_c, ↓oZ_addI, ↓oZ_addS, ↓oZ_addT, ↓oZ_addL, ↓oZ_sub, ↓oZ_mul, ↓oZ_mulT, ↓oZ_mulL, ↓oZ_fdiv, ↓oZ_mod, ↓oZ_pow, ↓oZ_eqI, ↓oZ_eqS, ↓oZ_neS, ↓oZ_neI, ↓oZ_lt, ↓oZ_le, ↓oZ_gt, ↓oZ_ge, ↓oZ_ixL, ↓oZ_ixT, ↓aI_0, ↓aI_1, ↓aI_2, ↓nI_0, ↓nI_1, ↓lS_0, ↓lS_s, ↓aI_int, ↓aI_str, ↓aI_row, ↓aI_b2, ↓aI_i1, ↓aI_i2, ↓aI_i3, ↓aI_i4, ↓aI_i5, ↓aI_i6, ↓oZ_abyz, ↓oZ_az, ↓cZ_lenLm, ↓cZ_lenTm, ↓cZ_lenP, ↓oZ_ixP, ↓sD_P, ↓cZ_lstP, ↓cZ_abs, ↓cZ_int, ↓cZ_intB, ↓cZ_tup, ↓cZ_lstL, ↓cZ_lstT, ↓cZ_all, ↓cZ_any, ↓cZ_max2, ↓cZ_min2, ↓cZ_sum, ↓cZ_sorted, ↓xE_int, ↓xE_bl, ↓xE_str, ↓xE_non, ↓xE_var, ↓xE_op, ↓xE_neg, ↓xE_nt, ↓xE_an, ↓xE_or, ↓xE_ch, ↓xE_isN, ↓xE_notN, ↓xE_ife, ↓xE_tup, ↓xE_lst, ↓xE_sl, ↓sl1_T, ↓sl1_L, ↓xE_cb, ↓xE_isa, ↓xE_call, ↓xE_callX, ↓xE_lget, ↓xE_srs, xE_revT, ↓xE_revL, ↓xE_sw, ↓s2D_s, ↓xB_sif, ↓xE_dget2, ↓xT_tl, ↓xI_ky, ↓xS_lk0, ↓xR_x, ↓xR_call, ↓xR_lst, ↓xR_e, ↓xB_ret, ↓xB_iff, ↓xS_tryK, ↓xS_never, ↓xS_mv0, ↓xS_aug, ↓eF_l, noF_nil, noF_dat, noF_no, noF_lst, noF_dK, ↓sK_j, ↓xE_callS, ↓xE_lc, ↓xE_lc2, ↓xE_callL, ↓rvA_d, ↓tw2_t, ↓sN_0, ↓sN_s, ↓xE_lrg, ↓xE_trg, ↓xE_pop, ↓xE_idxL, ↓sT_s, ↓xE_idxT, ↓xE_dget, ↓xE_din, ↓xE_dnin, ↓xE_dset, ↓xE_dspV, ↓xE_dspC, ↓xE_dspM, ↓tE_d, ↓xI_rng3, ↓xA_nil, ↓xA_cons, ↓xT_te, ↓xT_tb, ↓xT_nt, ↓xT_an, ↓xT_or, ↓xT_yes, ↓xT_lend, ↓xP_no, ↓xP_at, ↓xI_rng1, ↓xI_rng2, ↓xI_u, ↓xI_en, ↓xI_enl, ↓xG_nm, ↓xG_tup, ↓xGs_nil, ↓xGs_cons, ↓sV_d, ↓sV_n, ↓sV_w, ↓rV_d, ↓rV_n, ↓rV_w, ↓rV_o, ↓xS_set, ↓xS_asg, ↓xS_seti, ↓xS_app, ↓xS_newD, ↓xS_dput, ↓xS_drop, ↓xS_dropX, ↓xS_raise, ↓xS_tryC, ↓xS_ret, ↓xS_retN, ↓xS_iff, ↓xS_for, ↓xS_wh, ↓xS_brk, ↓xS_cont, ↓xS_nx, ↓xS_seq, ↓xS_fz, ↓fzK_l, ↓fzK_d, ↓fzK_n, ↓fzK_D, ↓kS_nx, ↓kS_rt, ↓kS_bk, ↓kS_ct, ↓out1_rt, ↓out2_rt, ↓xE_allIn, ↓xE_inC, ↓xE_isB, ↓strD_s, ↓u_b_check_rooms_1, d1, d2, Bool.and_false, Bool.not_false, Bool.false_eq_true]
    · have d1 := decide_eq_false q0
      simp (config := { implicitDefEqProofs := false }) (disch := walk_at "side") only [↓reduceIte, decide_eq_true_eq, decide_true, decide_false, Bool.not_true, Bool.not_false, Bool.false_eq_true, Int.reduceEq, Int.reduceLT, Int.reduceLE, Int.reduceNeg, Int.reduceToNat, ↓okI, ↓okI2, ↓aV_d, ↓aV_o, ↓aV_n, ↓aV_w, ↓dV_d, ↓dV_wD, ↓aV_wD, ↓dO_d, ↓kV_w, ↓xE_dinD, ↓xE_dninD, ↓xE_dgetD, ↓xE_fnv, ↓xE_callF, ↓xE_callE, ↓xE_isaT, ↓xE_dspb, ↓xI_ukd, ↓xS_retD, ↓xS_fzD, ↓fzKD_D, ↓fzKD_d, ↓dV_n, ↓dV_w, ↓gE_0, ↓gE_s, ↓eL_l, ↓eD_l, ↓eV_d, ↓eV_l, ↓nA_d, ↓nA_o, ↓iD_i, ↓bD_b, ↓kD_i, ↓kD_s, ↓zD_d, ↓vZ_d, ↓vZ_n, ↓sR_0, ↓sR_s, ↓sK_n, ↓sK_0, ↓lD_l, ↓sD_l, ↓sD_t, ↓tD_t, ↓dA_nil, ↓dA_d, ↓dN_nil, ↓dN_c, ↓oZ_addI, ↓oZ_addS, ↓oZ_addT, ↓oZ_addL, ↓oZ_sub, ↓oZ_mul, ↓oZ_mulT, ↓oZ_mulL, ↓oZ_fdiv, ↓oZ_mod, ↓oZ_pow, ↓oZ_eqI, ↓oZ_eqS, ↓oZ_neS, ↓oZ_neI, ↓oZ_lt, ↓oZ_le, ↓oZ_gt, ↓oZ_ge, ↓oZ_ixL, ↓oZ_ixT, ↓aI_0, ↓aI_1, ↓aI_2, ↓nI_0, ↓nI_1, ↓lS_0, ↓lS_s, ↓aI_int, ↓aI_str, ↓aI_row, ↓aI_b2, ↓aI_i1, ↓aI_i2, ↓aI_i3, ↓aI_i4, ↓aI_i5, ↓aI_i6, ↓oZ_abyz, ↓oZ_az, ↓cZ_lenLm, ↓cZ_lenTm, ↓cZ_lenP, ↓oZ_ixP, ↓sD_P, ↓cZ_lstP, ↓cZ_abs, ↓cZ_int, ↓cZ_intB, ↓cZ_tup, ↓cZ_lstL, ↓cZ_lstT, ↓cZ_all, ↓cZ_any, ↓cZ_max2, ↓cZ_min2, ↓cZ_sum, ↓cZ_sorted, ↓xE_int, ↓xE_bl, ↓xE_str, ↓xE_non, ↓xE_var, ↓xE_op, ↓xE_neg, ↓xE_nt, ↓xE_an, ↓xE_or, ↓xE_ch, ↓xE_isN, ↓xE_notN, ↓xE_ife, ↓xE_tup, ↓xE_lst, ↓xE_sl, ↓sl1_T, ↓sl1_L, ↓xE_cb, ↓xE_isa, ↓xE_call, ↓xE_callX, ↓xE_lget, ↓xE_srs, xE_revT, ↓xE_revL, ↓xE_sw, ↓s2D_s, ↓xB_sif, ↓xE_dget2, ↓xT_tl, ↓xI_ky, ↓xS_lk0, ↓xR_x, ↓xR_call, ↓xR_lst, ↓xR_e, ↓xB_ret, ↓xB_iff, ↓xS_tryK, ↓xS_never, ↓xS_mv0, ↓xS_aug, ↓eF_l, noF_nil, noF_dat, noF_no, noF_lst, noF_dK, ↓sK_j, ↓xE_callS, ↓xE_lc, ↓xE_lc2, ↓xE_callL, ↓rvA_d, ↓tw2_t, ↓sN_0, ↓sN_s, ↓xE_lrg, ↓xE_trg, ↓xE_pop, ↓xE_idxL, ↓sT_s, ↓xE_idxT, ↓xE_dget, ↓xE_din, ↓xE_dnin, ↓xE_dset, ↓xE_dspV, ↓xE_dspC, ↓xE_dspM, ↓tE_d, ↓xI_rng3, ↓xA_nil, ↓xA_cons, ↓xT_te, ↓xT_tb, ↓xT_nt, ↓xT_an, ↓xT_or, ↓xT_yes, ↓xT_lend, ↓xP_no, ↓xP_at, ↓xI_rng1, ↓xI_rng2, ↓xI_u, ↓xI_en, ↓xI_enl, ↓xG_nm, ↓xG_tup, ↓xGs_nil, ↓xGs_cons, ↓sV_d, ↓sV_n, ↓sV_w, ↓rV_d, ↓rV_n, ↓rV_w, ↓rV_o, ↓xS_set, ↓xS_asg, ↓xS_seti, ↓xS_app, ↓xS_newD, ↓xS_dput, ↓xS_drop, ↓xS_dropX, ↓xS_raise, ↓xS_tryC, ↓xS_ret, ↓xS_retN, ↓xS_iff, ↓xS_for, ↓xS_wh, ↓xS_brk, ↓xS_cont, ↓xS_nx, ↓xS_seq, ↓xS_fz, ↓fzK_l, ↓fzK_d, ↓fzK_n, ↓fzK_D, ↓kS_nx, ↓kS_rt, ↓kS_bk, ↓kS_ct, ↓out1_rt, ↓out2_rt, ↓xE_allIn, ↓xE_inC, ↓xE_isB, ↓strD_s, ↓u_b_check_rooms_1, d1, Bool.false_and, Bool.not_false, Bool.false_eq_true]
  rw [x_check_rooms]
  by_cases h3 : c.all (roomB n) = true
  · rw [if_pos h3] at L3
    rw [h3]
    simp (config := { implicitDefEqProofs := false }) (disch := walk_at "side") only [↓reduceIte, decide_eq_true_eq, decide_true, decide_false, Bool.not_true, Bool.not_false, Bool.false_eq_true, Int.reduceEq, Int.reduceLT, Int.reduceLE, Int.reduceNeg, Int.reduceToNat, ↓okI, ↓okI2, ↓aV_d, ↓aV_o, ↓aV_n, ↓aV_w, ↓dV_d, ↓dV_wD, ↓aV_wD, ↓dO_d, ↓kV_w, ↓xE_dinD, ↓xE_dninD, ↓xE_dgetD, ↓xE_fnv, ↓xE_callF, ↓xE_callE, ↓xE_isaT, ↓xE_dspb, ↓xI_ukd, ↓xS_retD, ↓xS_fzD, ↓fzKD_D, ↓fzKD_d, ↓dV_n, ↓dV_w, ↓gE_0, ↓gE_s, ↓eL_l, ↓eD_l, ↓eV_d, ↓eV_l, ↓nA_d, ↓nA_o, ↓iD_i, ↓bD_b, ↓kD_i, ↓kD_s, ↓zD_d, ↓vZ_d, ↓vZ_n, ↓sR_0, ↓sR_s, ↓sK_n, ↓sK_0, ↓lD_l, ↓sD_l, ↓sD_t, ↓tD_t, ↓dA_nil, ↓dA_d, ↓dN_nil, ↓dN_c, ↓oZ_addI, ↓oZ_addS, ↓oZ_addT, ↓oZ_addL, ↓oZ_sub, ↓oZ_mul, ↓oZ_mulT, ↓oZ_mulL, ↓oZ_fdiv, ↓oZ_mod, ↓oZ_pow, ↓oZ_eqI, ↓oZ_eqS, ↓oZ_neS, ↓oZ_neI, ↓oZ_lt, ↓oZ_le, ↓oZ_gt, ↓oZ_ge, ↓oZ_ixL, ↓oZ_ixT, ↓aI_0, ↓aI_1, ↓aI_2, ↓nI_0, ↓nI_1, ↓lS_0, ↓lS_s, ↓aI_int, ↓aI_str, ↓aI_row, ↓aI_b2, ↓aI_i1, ↓aI_i2, ↓aI_i3, ↓aI_i4, ↓aI_i5, ↓aI_i6, ↓oZ_abyz, ↓oZ_az, ↓cZ_lenLm, ↓cZ_lenTm, ↓cZ_lenP, ↓oZ_ixP, ↓sD_P, ↓cZ_lstP, ↓cZ_abs, ↓cZ_int, ↓cZ_intB, ↓cZ_tup, ↓cZ_lstL, ↓cZ_lstT, ↓cZ_all, ↓cZ_any, ↓cZ_max2, ↓cZ_min2, ↓cZ_sum, ↓cZ_sorted, ↓xE_int, ↓xE_bl, ↓xE_str, ↓xE_non, ↓xE_var, ↓xE_op, ↓xE_neg, ↓xE_nt, ↓xE_an, ↓xE_or, ↓xE_ch, ↓xE_isN, ↓xE_notN, ↓xE_ife, ↓xE_tup, ↓xE_lst, ↓xE_sl, ↓sl1_T, ↓sl1_L, ↓xE_cb, ↓xE_isa, ↓xE_call, ↓xE_callX, ↓xE_lget, ↓xE_srs, xE_revT, ↓xE_revL, ↓xE_sw, ↓s2D_s, ↓xB_sif, ↓xE_dget2, ↓xT_tl, ↓xI_ky, ↓xS_lk0, ↓xR_x, ↓xR_call, ↓xR_lst, ↓xR_e, ↓xB_ret, ↓xB_iff, ↓xS_tryK, ↓xS_never, ↓xS_mv0, ↓xS_aug, ↓eF_l, noF_nil, noF_dat, noF_no, noF_lst, noF_dK, ↓sK_j, ↓xE_callS, ↓xE_lc, ↓xE_lc2, ↓xE_callL, ↓rvA_d, ↓tw2_t, ↓sN_0, ↓sN_s, ↓xE_lrg, ↓xE_trg, ↓xE_pop, ↓xE_idxL, ↓sT_s, ↓xE_idxT, ↓xE_dget, ↓xE_din, ↓xE_dnin, ↓xE_dset, ↓xE_dspV, ↓xE_dspC, ↓xE_dspM, ↓tE_d, ↓xI_rng3, ↓xA_nil, ↓xA_cons, ↓xT_te, ↓xT_tb, ↓xT_nt, ↓xT_an, ↓xT_or, ↓xT_yes, ↓xT_lend, ↓xP_no, ↓xP_at, ↓xI_rng1, ↓xI_rng2, ↓xI_u, ↓xI_en, ↓xI_enl, ↓xG_nm, ↓xG_tup, ↓xGs_nil, ↓xGs_cons, ↓sV_d, ↓sV_n, ↓sV_w, ↓rV_d, ↓rV_n, ↓rV_w, ↓rV_o, ↓xS_set, ↓xS_asg, ↓xS_seti, ↓xS_app, ↓xS_newD, ↓xS_dput, ↓xS_drop, ↓xS_dropX, ↓xS_raise, ↓xS_tryC, ↓xS_ret, ↓xS_retN, ↓xS_iff, ↓xS_for, ↓xS_wh, ↓xS_brk, ↓xS_cont, ↓xS_nx, ↓xS_seq, ↓xS_fz, ↓fzK_l, ↓fzK_d, ↓fzK_n, ↓fzK_D, ↓kS_nx, ↓kS_rt, ↓kS_bk, ↓kS_ct, ↓out1_rt, ↓out2_rt, ↓xE_allIn, ↓xE_inC, ↓xE_isB, ↓strD_s, ↓u_c_check_rooms, ↓sD_P, ↓fK_s L3, eRet]
  · rw [if_neg h3] at L3
    rw [(Bool.not_eq_true _).mp h3]
    simp (config := { implicitDefEqProofs := false }) (disch := walk_at "side") only [↓reduceIte, decide_eq_true_eq, decide_true, decide_false, Bool.not_true, Bool.not_false, Bool.false_eq_true, Int.reduceEq, Int.reduceLT, Int.reduceLE, Int.reduceNeg, Int.reduceToNat, ↓okI, ↓okI2, ↓aV_d, ↓aV_o, ↓aV_n, ↓aV_w, ↓dV_d, ↓dV_wD, ↓aV_wD, ↓dO_d, ↓kV_w, ↓xE_dinD, ↓xE_dninD, ↓xE_dgetD, ↓xE_fnv, ↓xE_callF, ↓xE_callE, ↓xE_isaT, ↓xE_dspb, ↓xI_ukd, ↓xS_retD, ↓xS_fzD, ↓fzKD_D, ↓fzKD_d, ↓dV_n, ↓dV_w, ↓gE_0, ↓gE_s, ↓eL_l, ↓eD_l, ↓eV_d, ↓eV_l, ↓nA_d, ↓nA_o, ↓iD_i, ↓bD_b, ↓kD_i, ↓kD_s, ↓zD_d, ↓vZ_d, ↓vZ_n, ↓sR_0, ↓sR_s, ↓sK_n, ↓sK_0, ↓lD_l, ↓sD_l, ↓sD_t, ↓tD_t, ↓dA_nil, ↓dA_d, ↓dN_nil, ↓dN_c, ↓oZ_addI, ↓oZ_addS, ↓oZ_addT, ↓oZ_addL, ↓oZ_sub, ↓oZ_mul, ↓oZ_mulT, ↓oZ_mulL, ↓oZ_fdiv, ↓oZ_mod, ↓oZ_pow, ↓oZ_eqI, ↓oZ_eqS, ↓oZ_neS, ↓oZ_neI, ↓oZ_lt, ↓oZ_le, ↓oZ_gt, ↓oZ_ge, ↓oZ_ixL, ↓oZ_ixT, ↓aI_0, ↓aI_1, ↓aI_2, ↓nI_0, ↓nI_1, ↓lS_0, ↓lS_s, ↓aI_int, ↓aI_str, ↓aI_row, ↓aI_b2, ↓aI_i1, ↓aI_i2, ↓aI_i3, ↓aI_i4, ↓aI_i5, ↓aI_i6, ↓oZ_abyz, ↓oZ_az, ↓cZ_lenLm, ↓cZ_lenTm, ↓cZ_lenP, ↓oZ_ixP, ↓sD_P, ↓cZ_lstP, ↓cZ_abs, ↓cZ_int, ↓cZ_intB, ↓cZ_tup, ↓cZ_lstL, ↓cZ_lstT, ↓cZ_all, ↓cZ_any, ↓cZ_max2, ↓cZ_min2, ↓cZ_sum, ↓cZ_sorted, ↓xE_int, ↓xE_bl, ↓xE_str, ↓xE_non, ↓xE_var, ↓xE_op, ↓xE_neg, ↓xE_nt, ↓xE_an, ↓xE_or, ↓xE_ch, ↓xE_isN, ↓xE_notN, ↓xE_ife, ↓xE_tup, ↓xE_lst, ↓xE_sl, ↓sl1_T, ↓sl1_L, ↓xE_cb, ↓xE_isa, ↓xE_call, ↓xE_callX, ↓xE_lget, ↓xE_srs, xE_revT, ↓xE_revL, ↓xE_sw, ↓s2D_s, ↓xB_sif, ↓xE_dget2, ↓xT_tl, ↓xI_ky, ↓xS_lk0, ↓xR_x, ↓xR_call, ↓xR_lst, ↓xR_e, ↓xB_ret, ↓xB_iff, ↓xS_tryK, ↓xS_never, ↓xS_mv0, ↓xS_aug, ↓eF_l, noF_nil, noF_dat, noF_no, noF_lst, noF_dK, ↓sK_j, ↓xE_callS, ↓xE_lc, ↓xE_lc2, ↓xE_callL, ↓rvA_d, ↓tw2_t, ↓sN_0, ↓sN_s, ↓xE_lrg, ↓xE_trg, ↓xE_pop, ↓xE_idxL, ↓sT_s, ↓xE_idxT, ↓xE_dget, ↓xE_din, ↓xE_dnin, ↓xE_dset, ↓xE_dspV, ↓xE_dspC, ↓xE_dspM, ↓tE_d, ↓xI_rng3, ↓xA_nil, ↓xA_cons, ↓xT_te, ↓xT_tb, ↓xT_nt, ↓xT_an, ↓xT_or, ↓xT_yes, ↓xT_lend, ↓xP_no, ↓xP_at, ↓xI_rng1, ↓xI_rng2, ↓xI_u, ↓xI_en, ↓xI_enl, ↓xG_nm, ↓xG_tup, ↓xGs_nil, ↓xGs_cons, ↓sV_d, ↓sV_n, ↓sV_w, ↓rV_d, ↓rV_n, ↓rV_w, ↓rV_o, ↓xS_set, ↓xS_asg, ↓xS_seti, ↓xS_app, ↓xS_newD, ↓xS_dput, ↓xS_drop, ↓xS_dropX, ↓xS_raise, ↓xS_tryC, ↓xS_ret, ↓xS_retN, ↓xS_iff, ↓xS_for, ↓xS_wh, ↓xS_brk, ↓xS_cont, ↓xS_nx, ↓xS_seq, ↓xS_fz, ↓fzK_l, ↓fzK_d, ↓fzK_n, ↓fzK_D, ↓kS_nx, ↓kS_rt, ↓kS_bk, ↓kS_ct, ↓out1_rt, ↓out2_rt, ↓xE_allIn, ↓xE_inC, ↓xE_isB, ↓strD_s, ↓u_c_check_rooms, ↓sD_P, ↓fK_s L3, ↓kS_exY, ↓out3_exY, eRet, Bool.false_eq_true]
end CS
namespace CS
open PySem PySem.Spec PyProof.Rows L2 DL EV
local macro_rules | `(tactic| walk_at "side") => `(tactic| first | omega | (simp only [List.length_cons, List.length_nil, List.length_map, List.length_append, List.length_range, PySem.sizeLine_eq]; omega) | assumption | (simp; done))
def mD (L : List Str) (rows : List (List Int)) (g : List Int) : D := .tuple [.tuple (L.map .str), .tuple (rows.map tupI), tupI g]
theorem cX_ret {β : Type} {X : Cl} {f : List D → Option RetX} {ds : List D} {b : Bool} {kd : D → Option β} {kx : Addr → Option β} (h : f ds = some (eRet X b)) : cX f ds kd kx = if b then kd .none else kx X.na := by
  cases b
  · exact cX_ex h
  · exact cX_ok h
theorem rgD_1 {n : Nat} : rgD 1 n = (List.range n).map fun i => PyData.int (1 + ((i : Nat) : Int)) := rfl
theorem check_machine_eq {X : Cl} {L : List Str} {rows : List (List Int)} {g : List Int} (hL : ∀ x ∈ L, x.length ≤ sizeLine) (hg : g.length ≤ 1000) : f_check_machine X [mD L rows g] = some (eRet X (machB L rows g)) := by
  have lnL : ∀ {β : Type} (kz : Rz → Option β), cZ .len [.tuple (L.map .str)] kz = kz (.d (.int (L.length : Nat))) := fun kz => by rw [cZ_lenTm]
  have lnR : ∀ {β : Type} (kz : Rz → Option β), cZ .len [.tuple (rows.map tupI)] kz = kz (.d (.int (rows.length : Nat))) := fun kz => by rw [cZ_lenTm]
  have lnG : ∀ {β : Type} (kz : Rz → Option β), cZ .len [tupI g] kz = kz (.d (.int (g.length : Nat))) := fun kz => by unfold tupI; rw [cZ_lenTm]
  have CL : ∀ {β : Type} (kd : D → Option β) (kx : Addr → Option β), cX (f_check_letters X) [.tuple (L.map .str)] kd kx = if lettersB L then kd .none else kx X.na := fun kd kx => cX_ret (check_letters_eq hL)
  have CG : ∀ {β : Type} (kd : D → Option β) (kx : Addr → Option β), cX (f_check_rooms X) [tupI g, .int (rows.length : Nat)] kd kx = if g.all (roomB rows.length) then kd .none else kx X.na := fun kd kx => cX_ret check_rooms_eq
  obtain ⟨ρ3, ⟨e1, rfl⟩, L3⟩ := for_okY (f := trn [] (.nm 1) (b_check_machine_3 X)) tupI (fun ρ => ∃ e1, ρ = [.dat (mD L rows g), e1, .no, .dat (.tuple (L.map .str)), .dat (.tuple (rows.map tupI)), .dat (tupI g)]) (rowB L.length rows.length) (C := X.na) (l := rows) (ρ := [.dat (mD L rows g), .no, .no, .dat (.tuple (L.map .str)), .dat (.tuple (rows.map tupI)), .dat (tupI g)]) ⟨_, rfl⟩ fun r m ρ ⟨e1, hρ⟩ => by
    subst hρ
    have lnr : ∀ {β : Type} (kz : Rz → Option β), cZ .len [tupI r] kz = kz (.d (.int (r.length : Nat))) := fun kz => by unfold tupI; rw [cZ_lenTm]
    have CR : ∀ {β : Type} (kd : D → Option β) (kx : Addr → Option β), cX (f_check_rooms X) [tupI r, .int (rows.length : Nat)] kd kx = if r.all (roomB rows.length) then kd .none else kx X.na := fun kd kx => cX_ret check_rooms_eq
    refine ⟨[.dat (mD L rows g), .dat (tupI r), .no, .dat (.tuple (L.map .str)), .dat (.tuple (rows.map tupI)), .dat (tupI g)], ⟨_, rfl⟩, ?_⟩
    rw [trn_x]
    unfold rowB
    by_cases q0 : r.length = L.length
    · have d1 := decide_eq_true q0
      have d2 : decide ((r.length : Int) = (L.length : Int)) = true := decide_eq_true (by omega)
      cases q1 : r.all (roomB rows.length) with
      | true =>
        rw [q1] at CR
        simp (config := { implicitDefEqProofs := false }) (disch := walk_at "side") only [↓reduceIte, decide_eq_true_eq, decide_true, decide_false, Bool.not_true, Bool.not_false, Bool.false_eq_true, Int.reduceEq, Int.reduceLT, Int.reduceLE, Int.reduceNeg, Int.reduceToNat, ↓okI, ↓okI2, ↓aV_d, ↓aV_o, ↓aV_n, ↓aV_w, ↓dV_d, ↓dV_wD, ↓aV_wD, ↓dO_d, ↓kV_w, ↓xE_dinD, ↓xE_dninD, ↓xE_dgetD, ↓xE_fnv, ↓xE_callF, ↓xE_callE, ↓xE_isaT, ↓xE_dspb, ↓xI_ukd, ↓xS_retD, ↓xS_fzD, ↓fzKD_D, ↓fzKD_d, ↓dV_n, ↓dV_w, ↓gE_0, ↓gE_s, ↓eL_l, ↓eD_l, ↓eV_d, ↓eV_l, ↓nA_d, ↓nA_o, ↓iD_i, ↓bD_b, ↓kD_i, ↓kD_s, ↓zD_d, ↓vZ_d, ↓vZ_n, ↓sR_0, ↓sR_s, ↓sK_n, ↓sK_0, ↓lD_l, ↓sD_l, ↓sD_t, ↓tD_t, ↓dA_nil, ↓dA_d, ↓dN_nil, ↓dN_c, ↓oZ_addI, ↓oZ_addS, ↓oZ_addT, ↓oZ_addL, ↓oZ_sub, ↓oZ_mul, ↓oZ_mulT, ↓oZ_mulL, ↓oZ_fdiv, ↓oZ_mod, ↓oZ_pow, ↓oZ_eqI, ↓oZ_eqS, ↓oZ_neS, ↓oZ_neI, ↓oZ_lt, ↓oZ_le, ↓oZ_gt, ↓oZ_ge, ↓oZ_ixL, ↓oZ_ixT, ↓aI_0, ↓aI_1, ↓aI_2, ↓nI_0, ↓nI_1, ↓lS_0, ↓lS_s, ↓aI_int, ↓aI_str, ↓aI_row, ↓aI_b2, ↓aI_i1, ↓aI_i2, ↓aI_i3, ↓aI_i4, ↓aI_i5, ↓aI_i6, ↓oZ_abyz, ↓oZ_az, ↓cZ_lenLm, ↓cZ_lenTm, ↓cZ_lenP, ↓oZ_ixP, ↓sD_P, ↓cZ_lstP, ↓cZ_abs, ↓cZ_int, ↓cZ_intB, ↓cZ_tup, ↓cZ_lstL, ↓cZ_lstT, ↓cZ_all, ↓cZ_any, ↓cZ_max2, ↓cZ_min2, ↓cZ_sum, ↓cZ_sorted, ↓xE_int, ↓xE_bl, ↓xE_str, ↓xE_non, ↓xE_var, ↓xE_op, ↓xE_neg, ↓xE_nt, ↓xE_an, ↓xE_or, ↓xE_ch, ↓xE_isN, ↓xE_notN, ↓xE_ife, ↓xE_tup, ↓xE_lst, ↓xE_sl, ↓sl1_T, ↓sl1_L, ↓xE_cb, ↓xE_isa, ↓xE_call, ↓xE_callX, ↓xE_lget, ↓xE_srs, xE_revT, ↓xE_revL, ↓xE_sw, ↓s2D_s, ↓xB_sif, ↓xE_dget2, ↓xT_tl, ↓xI_ky, ↓xS_lk0, ↓xR_x, ↓xR_call, ↓xR_lst, ↓xR_e, ↓xB_ret, ↓xB_iff, ↓xS_tryK, ↓xS_never, ↓xS_mv0, ↓xS_aug, ↓eF_l, noF_nil, noF_dat, noF_no, noF_lst, noF_dK, ↓sK_j, ↓xE_callS, ↓xE_lc, ↓xE_lc2, ↓xE_callL, ↓rvA_d, ↓tw2_t, ↓sN_0, ↓sN_s, ↓xE_lrg, ↓xE_trg, ↓xE_pop, ↓xE_idxL, ↓sT_s, ↓xE_idxT, ↓xE_dget, ↓xE_din, ↓xE_dnin, ↓xE_dset, ↓xE_dspV, ↓xE_dspC, ↓xE_dspM, ↓tE_d, ↓xI_rng3, ↓xA_nil, ↓xA_cons, ↓xT_te, ↓xT_tb, ↓xT_nt, ↓xT_an, ↓xT_or, ↓xT_yes, ↓xT_lend, ↓xP_no, ↓xP_at, ↓xI_rng1, ↓xI_rng2, ↓xI_u, ↓xI_en, ↓xI_enl, ↓xG_nm, ↓xG_tup, ↓xGs_nil, ↓xGs_cons, ↓sV_d, ↓sV_n, ↓sV_w, ↓rV_d, ↓rV_n, ↓rV_w, ↓rV_o, ↓xS_set, ↓xS_asg, ↓xS_seti, ↓xS_app, ↓xS_newD, ↓xS_dput, ↓xS_drop, ↓xS_dropX, ↓xS_raise, ↓xS_tryC, ↓xS_ret, ↓xS_retN, ↓xS_iff, ↓xS_for, ↓xS_wh, ↓xS_brk, ↓xS_cont, ↓xS_nx, ↓xS_seq, ↓xS_fz, ↓fzK_l, ↓fzK_d, ↓fzK_n, ↓fzK_D, ↓kS_nx, ↓kS_rt, ↓kS_bk, ↓kS_ct, ↓out1_rt, ↓out2_rt, ↓xE_allIn, ↓xE_inC, ↓xE_isB, ↓strD_s, ↓u_b_check_machine_3, ↓lnr, ↓lnL, ↓lnR, d1, d2, ↓CR, Bool.and_self, Bool.not_true, Bool.false_eq_true]
      | false =>
        rw [q1] at CR
        simp (config := { implicitDefEqProofs := false }) (disch := walk_at "side") only [↓reduceIte, decide_eq_true_eq, decide_true, decide_false, Bool.not_true, Bool.not_false, Bool.false_eq_true, Int.reduceEq, Int.reduceLT, Int.reduceLE, Int.reduceNeg, Int.reduceToNat, ↓okI, ↓okI2, ↓aV_d, ↓aV_o, ↓aV_n, ↓aV_w, ↓dV_d, ↓dV_wD, ↓aV_wD, ↓dO_d, ↓kV_w, ↓xE_dinD, ↓xE_dninD, ↓xE_dgetD, ↓xE_fnv, ↓xE_callF, ↓xE_callE, ↓xE_isaT, ↓xE_dspb, ↓xI_ukd, ↓xS_retD, ↓xS_fzD, ↓fzKD_D, ↓fzKD_d, ↓dV_n, ↓dV_w, ↓gE_0, ↓gE_s, ↓eL_l, ↓eD_l, ↓eV_d, ↓eV_l, ↓nA_d, ↓nA_o, ↓iD_i, ↓bD_b, ↓kD_i, ↓kD_s, ↓zD_d, ↓vZ_d, ↓vZ_n, ↓sR_0, ↓sR_s, ↓sK_n, ↓sK_0, ↓lD_l, ↓sD_l, ↓sD_t, ↓tD_t, ↓dA_nil, ↓dA_d, ↓dN_nil, ↓dN_c, ↓oZ_addI, ↓oZ_addS, ↓oZ_addT, ↓oZ_addL, ↓oZ_sub, ↓oZ_mul, ↓oZ_mulT, ↓oZ_mulL, ↓oZ_fdiv, ↓oZ_mod, ↓oZ_pow, ↓oZ_eqI, ↓oZ_eqS, ↓oZ_neS, ↓oZ_neI, ↓oZ_lt, ↓oZ_le, ↓oZ_gt, ↓oZ_ge, ↓oZ_ixL, ↓oZ_ixT, ↓aI_0, ↓aI_1, ↓aI_2, ↓nI_0, ↓nI_1, ↓lS_0, ↓lS_s, ↓aI_int, ↓aI_str, ↓aI_row, ↓aI_b2, ↓aI_i1, ↓aI_i2, ↓aI_i3, ↓aI_i4, ↓aI_i5, ↓aI_i6, ↓oZ_abyz, ↓oZ_az, ↓cZ_lenLm, ↓cZ_lenTm, ↓cZ_lenP, ↓oZ_ixP, ↓sD_P, ↓cZ_lstP, ↓cZ_abs, ↓cZ_int, ↓cZ_intB, ↓cZ_tup, ↓cZ_lstL, ↓cZ_lstT, ↓cZ_all, ↓cZ_any, ↓cZ_max2, ↓cZ_min2, ↓cZ_sum, ↓cZ_sorted, ↓xE_int, ↓xE_bl, ↓xE_str, ↓xE_non, ↓xE_var, ↓xE_op, ↓xE_neg, ↓xE_nt, ↓xE_an, ↓xE_or, ↓xE_ch, ↓xE_isN, ↓xE_notN, ↓xE_ife, ↓xE_tup, ↓xE_lst, ↓xE_sl, ↓sl1_T, ↓sl1_L, ↓xE_cb, ↓xE_isa, ↓xE_call, ↓xE_callX, ↓xE_lget, ↓xE_srs, xE_revT, ↓xE_revL, ↓xE_sw, ↓s2D_s, ↓xB_sif, ↓xE_dget2, ↓xT_tl, ↓xI_ky, ↓xS_lk0, ↓xR_x, ↓xR_call, ↓xR_lst, ↓xR_e, ↓xB_ret, ↓xB_iff, ↓xS_tryK, ↓xS_never, ↓xS_mv0, ↓xS_aug, ↓eF_l, noF_nil, noF_dat, noF_no, noF_lst, noF_dK, ↓sK_j, ↓xE_callS, ↓xE_lc, ↓xE_lc2, ↓xE_callL, ↓rvA_d, ↓tw2_t, ↓sN_0, ↓sN_s, ↓xE_lrg, ↓xE_trg, ↓xE_pop, ↓xE_idxL, ↓sT_s, ↓xE_idxT, ↓xE_dget, ↓xE_din, ↓xE_dnin, ↓xE_dset, ↓xE_dspV, ↓xE_dspC, ↓xE_dspM, ↓tE_d, ↓xI_rng3, ↓xA_nil, ↓xA_cons, ↓xT_te, ↓xT_tb, ↓xT_nt, ↓xT_an, ↓xT_or, ↓xT_yes, ↓xT_lend, ↓xP_no, ↓xP_at, ↓xI_rng1, ↓xI_rng2, ↓xI_u, ↓xI_en, ↓xI_enl, ↓xG_nm, ↓xG_tup, ↓xGs_nil, ↓xGs_cons, ↓sV_d, ↓sV_n, ↓sV_w, ↓rV_d, ↓rV_n, ↓rV_w, ↓rV_o, ↓xS_set, ↓xS_asg, ↓xS_seti, ↓xS_app, ↓xS_newD, ↓xS_dput, ↓xS_drop, ↓xS_dropX, ↓xS_raise, ↓xS_tryC, ↓xS_ret, ↓xS_retN, ↓xS_iff, ↓xS_for, ↓xS_wh, ↓xS_brk, ↓xS_cont, ↓xS_nx, ↓xS_seq, ↓xS_fz, ↓fzK_l, ↓fzK_d, ↓fzK_n, ↓fzK_D, ↓kS_nx, ↓kS_rt, ↓kS_bk, ↓kS_ct, ↓out1_rt, ↓out2_rt, ↓xE_allIn, ↓xE_inC, ↓xE_isB, ↓strD_s, ↓u_b_check_machine_3, ↓lnr, ↓lnL, ↓lnR, d1, d2, ↓CR, Bool.and_false, Bool.not_true, Bool.false_eq_true]
    · have d1 := decide_eq_false q0
      have d2 : decide ((r.length : Int) = (L.length : Int)) = false := decide_eq_false (by omega)
      simp (config := { implicitDefEqProofs := false }) (disch := walk_at "side") only [↓reduceIte, decide_eq_true_eq, decide_true, decide_false, Bool.not_true, Bool.not_false, Bool.false_eq_true, Int.reduceEq, Int.reduceLT, Int.reduceLE, Int.reduceNeg, Int.reduceToNat, ↓okI, ↓okI2, ↓aV_d, ↓aV_o, ↓aV_n, ↓aV_w, ↓dV_d, ↓dV_wD, ↓aV_wD, ↓dO_d, ↓kV_w, ↓xE_dinD, ↓xE_dninD, ↓xE_dgetD, ↓xE_fnv, ↓xE_callF, ↓xE_callE, ↓xE_isaT, ↓xE_dspb, ↓xI_ukd, ↓xS_retD, ↓xS_fzD, ↓fzKD_D, ↓fzKD_d, ↓dV_n, ↓dV_w, ↓gE_0, ↓gE_s, ↓eL_l, ↓eD_l, ↓eV_d, ↓eV_l, ↓nA_d, ↓nA_o, ↓iD_i, ↓bD_b, ↓kD_i, ↓kD_s, ↓zD_d, ↓vZ_d, ↓vZ_n, ↓sR_0, ↓sR_s, ↓sK_n, ↓sK_0, ↓lD_l, ↓sD_l, ↓sD_t, ↓tD_t, ↓dA_nil, ↓dA_d, ↓dN_nil, ↓dN_c, ↓oZ_addI, ↓oZ_addS, ↓oZ_addT, ↓oZ_addL, ↓oZ_sub, ↓oZ_mul, ↓oZ_mulT, ↓oZ_mulL, ↓oZ_fdiv, ↓oZ_mod, ↓oZ_pow, ↓oZ_eqI, ↓oZ_eqS, ↓oZ_neS, ↓oZ_neI, ↓oZ_lt, ↓oZ_le, ↓oZ_gt, ↓oZ_ge, ↓oZ_ixL, ↓oZ_ixT, ↓aI_0, ↓aI_1, ↓aI_2, ↓nI_0, ↓nI_1, ↓lS_0, ↓lS_s, ↓aI_int, ↓aI_str, ↓aI_row, ↓aI_b2, ↓aI_i1, ↓aI_i2, ↓aI_i3, ↓aI_i4, ↓aI_i5, ↓aI_i6, ↓oZ_abyz, ↓oZ_az, ↓cZ_lenLm, ↓cZ_lenTm, ↓cZ_lenP, ↓oZ_ixP, ↓sD_P, ↓cZ_lstP, ↓cZ_abs, ↓cZ_int, ↓cZ_intB, ↓cZ_tup, ↓cZ_lstL, ↓cZ_lstT, ↓cZ_all, ↓cZ_any, ↓cZ_max2, ↓cZ_min2, ↓cZ_sum, ↓cZ_sorted, ↓xE_int, ↓xE_bl, ↓xE_str, ↓xE_non, ↓xE_var, ↓xE_op, ↓xE_neg, ↓xE_nt, ↓xE_an, ↓xE_or, ↓xE_ch, ↓xE_isN, ↓xE_notN, ↓xE_ife, ↓xE_tup, ↓xE_lst, ↓xE_sl, ↓sl1_T, ↓sl1_L, ↓xE_cb, ↓xE_isa, ↓xE_call, ↓xE_callX, ↓xE_lget, ↓xE_srs, xE_revT, ↓xE_revL, ↓xE_sw, ↓s2D_s, ↓xB_sif, ↓xE_dget2, ↓xT_tl, ↓xI_ky, ↓xS_lk0, ↓xR_x, ↓xR_call, ↓xR_lst, ↓xR_e, ↓xB_ret, ↓xB_iff, ↓xS_tryK, ↓xS_never, ↓xS_mv0, ↓xS_aug, ↓eF_l, noF_nil, noF_dat, noF_no, noF_lst, noF_dK, ↓sK_j, ↓xE_callS, ↓xE_lc, ↓xE_lc2, ↓xE_callL, ↓rvA_d, ↓tw2_t, ↓sN_0, ↓sN_s, ↓xE_lrg, ↓xE_trg, ↓xE_pop, ↓xE_idxL, ↓sT_s, ↓xE_idxT, ↓xE_dget, ↓xE_din, ↓xE_dnin, ↓xE_dset, ↓xE_dspV, ↓xE_dspC, ↓xE_dspM, ↓tE_d, ↓xI_rng3, ↓xA_nil, ↓xA_cons, ↓xT_te, ↓xT_tb, ↓xT_nt, ↓xT_an, ↓xT_or, ↓xT_yes, ↓xT_lend, ↓xP_no, ↓xP_at, ↓xI_rng1, ↓xI_rng2, ↓xI_u, ↓xI_en, ↓xI_enl, ↓xG_nm, ↓xG_tup, ↓xGs_nil, ↓xGs_cons, ↓sV_d, ↓sV_n, ↓sV_w, ↓rV_d, ↓rV_n, ↓rV_w, ↓rV_o, ↓xS_set, ↓xS_asg, ↓xS_seti, ↓xS_app, ↓xS_newD, ↓xS_dput, ↓xS_drop, ↓xS_dropX, ↓xS_raise, ↓xS_tryC, ↓xS_ret, ↓xS_retN, ↓xS_iff, ↓xS_for, ↓xS_wh, ↓xS_brk, ↓xS_cont, ↓xS_nx, ↓xS_seq, ↓xS_fz, ↓fzK_l, ↓fzK_d, ↓fzK_n, ↓fzK_D, ↓kS_nx, ↓kS_rt, ↓kS_bk, ↓kS_ct, ↓out1_rt, ↓out2_rt, ↓xE_allIn, ↓xE_inC, ↓xE_isB, ↓strD_s, ↓u_b_check_machine_3, ↓lnr, ↓lnL, d1, d2, Bool.false_and, Bool.not_false, Bool.false_eq_true]
  have U : ∃ e2, forGo (trn [] (.nm 2) (b_check_machine_1 X)) (rgD 1 (((g.length : Nat) : Int) - 1).toNat) [.dat (mD L rows g), e1, .no, .dat (.tuple (L.map .str)), .dat (.tuple (rows.map tupI)), .dat (tupI g)] = some (if (List.range (g.length - 1)).all (upB g) then .nx [.dat (mD L rows g), e1, e2, .dat (.tuple (L.map .str)), .dat (.tuple (rows.map tupI)), .dat (tupI g)] else .ex X.na [.dat (mD L rows g), e1, e2, .dat (.tuple (L.map .str)), .dat (.tuple (rows.map tupI)), .dat (tupI g)]) := by
    rw [show (((g.length : Nat) : Int) - 1).toNat = g.length - 1 by omega, rgD_1]
    obtain ⟨ρ4, ⟨e2, rfl⟩, L4⟩ := for_okY (f := trn [] (.nm 2) (b_check_machine_1 X)) (fun i : Nat => PyData.int (1 + ((i : Nat) : Int))) (fun ρ => ∃ e2, ρ = [.dat (mD L rows g), e1, e2, .dat (.tuple (L.map .str)), .dat (.tuple (rows.map tupI)), .dat (tupI g)]) (upB g) (C := X.na) (l := List.range (g.length - 1)) (ρ := [.dat (mD L rows g), e1, .no, .dat (.tuple (L.map .str)), .dat (.tuple (rows.map tupI)), .dat (tupI g)]) ⟨_, rfl⟩ fun i m ρ ⟨e2, hρ⟩ => by
      subst hρ
      have hi := List.mem_range.mp m
      refine ⟨[.dat (mD L rows g), e1, .dat (.int (1 + ((i : Nat) : Int))), .dat (.tuple (L.map .str)), .dat (.tuple (rows.map tupI)), .dat (tupI g)], ⟨_, rfl⟩, ?_⟩
      have i1 : ∀ {β : Type} (kz : Rz → Option β), oZ .ix (tupI g) (.int (1 + ((i : Nat) : Int) - 1)) kz = kz (.d (.int (g.getD i 0))) := fun kz => by rw [oZ_ixP (by omega) (by omega), show (1 + ((i : Nat) : Int) - 1).toNat = i by omega]
      have i2 : ∀ {β : Type} (kz : Rz → Option β), oZ .ix (tupI g) (.int (1 + ((i : Nat) : Int))) kz = kz (.d (.int (g.getD (i + 1) 0))) := fun kz => by rw [oZ_ixP (by omega) (by omega), show (1 + ((i : Nat) : Int)).toNat = i + 1 by omega]
      rw [trn_x]
      unfold upB
      by_cases q : g.getD i 0 < g.getD (i + 1) 0
      · have d1 := decide_eq_true q
        have d2 : decide (g.getD (i + 1) 0 ≤ g.getD i 0) = false := decide_eq_false (by omega)
        simp (config := { implicitDefEqProofs := false }) (disch := walk_at "side") only [↓reduceIte, decide_eq_true_eq, decide_true, decide_false, Bool.not_true, Bool.not_false, Bool.false_eq_true, Int.reduceEq, Int.reduceLT, Int.reduceLE, Int.reduceNeg, Int.reduceToNat, ↓okI, ↓okI2, ↓aV_d, ↓aV_o, ↓aV_n, ↓aV_w, ↓dV_d, ↓dV_wD, ↓aV_wD, ↓dO_d, ↓kV_w, ↓xE_dinD, ↓xE_dninD, ↓xE_dgetD, ↓xE_fnv, ↓xE_callF, ↓xE_callE, ↓xE_isaT, ↓xE_dspb, ↓xI_ukd, ↓xS_retD, ↓xS_fzD, ↓fzKD_D, ↓fzKD_d, ↓dV_n, ↓dV_w, ↓gE_0, ↓gE_s, ↓eL_l, ↓eD_l, ↓eV_d, ↓eV_l, ↓nA_d, ↓nA_o, ↓iD_i, ↓bD_b, ↓kD_i, ↓kD_s, ↓zD_d, ↓vZ_d, ↓vZ_n, ↓sR_0, ↓sR_s, ↓sK_n, ↓sK_0, ↓lD_l, ↓sD_l, ↓sD_t, ↓tD_t, ↓dA_nil, ↓dA_d, ↓dN_nil, ↓dN_c, ↓oZ_addI, ↓oZ_addS, ↓oZ_addT, ↓oZ_addL, ↓oZ_sub, ↓oZ_mul, ↓oZ_mulT, ↓oZ_mulL, ↓oZ_fdiv, ↓oZ_mod, ↓oZ_pow, ↓oZ_eqI, ↓oZ_eqS, ↓oZ_neS, ↓oZ_neI, ↓oZ_lt, ↓oZ_le, ↓oZ_gt, ↓oZ_ge, ↓oZ_ixL, ↓oZ_ixT, ↓aI_0, ↓aI_1, ↓aI_2, ↓nI_0, ↓nI_1, ↓lS_0, ↓lS_s, ↓aI_int, ↓aI_str, ↓aI_row, ↓aI_b2, ↓aI_i1, ↓aI_i2, ↓aI_i3, ↓aI_i4, ↓aI_i5, ↓aI_i6, ↓oZ_abyz, ↓oZ_az, ↓cZ_lenLm, ↓cZ_lenTm, ↓cZ_lenP, ↓oZ_ixP, ↓sD_P, ↓cZ_lstP, ↓cZ_abs, ↓cZ_int, ↓cZ_intB, ↓cZ_tup, ↓cZ_lstL, ↓cZ_lstT, ↓cZ_all, ↓cZ_any, ↓cZ_max2, ↓cZ_min2, ↓cZ_sum, ↓cZ_sorted, ↓xE_int, ↓xE_bl, ↓xE_str, ↓xE_non, ↓xE_var, ↓xE_op, ↓xE_neg, ↓xE_nt, ↓xE_an, ↓xE_or, ↓xE_ch, ↓xE_isN, ↓xE_notN, ↓xE_ife, ↓xE_tup, ↓xE_lst, ↓xE_sl, ↓sl1_T, ↓sl1_L, ↓xE_cb, ↓xE_isa, ↓xE_call, ↓xE_callX, ↓xE_lget, ↓xE_srs, xE_revT, ↓xE_revL, ↓xE_sw, ↓s2D_s, ↓xB_sif, ↓xE_dget2, ↓xT_tl, ↓xI_ky, ↓xS_lk0, ↓xR_x, ↓xR_call, ↓xR_lst, ↓xR_e, ↓xB_ret, ↓xB_iff, ↓xS_tryK, ↓xS_never, ↓xS_mv0, ↓xS_aug, ↓eF_l, noF_nil, noF_dat, noF_no, noF_lst, noF_dK, ↓sK_j, ↓xE_callS, ↓xE_lc, ↓xE_lc2, ↓xE_callL, ↓rvA_d, ↓tw2_t, ↓sN_0, ↓sN_s, ↓xE_lrg, ↓xE_trg, ↓xE_pop, ↓xE_idxL, ↓sT_s, ↓xE_idxT, ↓xE_dget, ↓xE_din, ↓xE_dnin, ↓xE_dset, ↓xE_dspV, ↓xE_dspC, ↓xE_dspM, ↓tE_d, ↓xI_rng3, ↓xA_nil, ↓xA_cons, ↓xT_te, ↓xT_tb, ↓xT_nt, ↓xT_an, ↓xT_or, ↓xT_yes, ↓xT_lend, ↓xP_no, ↓xP_at, ↓xI_rng1, ↓xI_rng2, ↓xI_u, ↓xI_en, ↓xI_enl, ↓xG_nm, ↓xG_tup, ↓xGs_nil, ↓xGs_cons, ↓sV_d, ↓sV_n, ↓sV_w, ↓rV_d, ↓rV_n, ↓rV_w, ↓rV_o, ↓xS_set, ↓xS_asg, ↓xS_seti, ↓xS_app, ↓xS_newD, ↓xS_dput, ↓xS_drop, ↓xS_dropX, ↓xS_raise, ↓xS_tryC, ↓xS_ret, ↓xS_retN, ↓xS_iff, ↓xS_for, ↓xS_wh, ↓xS_brk, ↓xS_cont, ↓xS_nx, ↓xS_seq, ↓xS_fz, ↓fzK_l, ↓fzK_d, ↓fzK_n, ↓fzK_D, ↓kS_nx, ↓kS_rt, ↓kS_bk, ↓kS_ct, ↓out1_rt, ↓out2_rt, ↓xE_allIn, ↓xE_inC, ↓xE_isB, ↓strD_s, ↓u_b_check_machine_1, ↓i1, ↓i2, d1, d2, Bool.false_eq_true, ge_iff_le]
      · have d1 := decide_eq_false q
        have d2 : decide (g.getD (i + 1) 0 ≤ g.getD i 0) = true := decide_eq_true (by omega)
        simp (config := { implicitDefEqProofs := false }) (disch := walk_at "side") only [↓reduceIte, decide_eq_true_eq, decide_true, decide_false, Bool.not_true, Bool.not_false, Bool.false_eq_true, Int.reduceEq, Int.reduceLT, Int.reduceLE, Int.reduceNeg, Int.reduceToNat, ↓okI, ↓okI2, ↓aV_d, ↓aV_o, ↓aV_n, ↓aV_w, ↓dV_d, ↓dV_wD, ↓aV_wD, ↓dO_d, ↓kV_w, ↓xE_dinD, ↓xE_dninD, ↓xE_dgetD, ↓xE_fnv, ↓xE_callF, ↓xE_callE, ↓xE_isaT, ↓xE_dspb, ↓xI_ukd, ↓xS_retD, ↓xS_fzD, ↓fzKD_D, ↓fzKD_d, ↓dV_n, ↓dV_w, ↓gE_0, ↓gE_s, ↓eL_l, ↓eD_l, ↓eV_d, ↓eV_l, ↓nA_d, ↓nA_o, ↓iD_i, ↓bD_b, ↓kD_i, ↓kD_s, ↓zD_d, ↓vZ_d, ↓vZ_n, ↓sR_0, ↓sR_s, ↓sK_n, ↓sK_0, ↓lD_l, ↓sD_l, ↓sD_t, ↓tD_t, ↓dA_nil, ↓dA_d, ↓dN_nil, ↓dN_c, ↓oZ_addI, ↓oZ_addS, ↓oZ_addT, ↓oZ_addL, ↓oZ_sub, ↓oZ_mul, ↓oZ_mulT, ↓oZ_mulL, ↓oZ_fdiv, ↓oZ_mod, ↓oZ_pow, ↓oZ_eqI, ↓oZ_eqS, ↓oZ_neS, ↓oZ_neI, ↓oZ_lt, ↓oZ_le, ↓oZ_gt, ↓oZ_ge, ↓oZ_ixL, ↓oZ_ixT, ↓aI_0, ↓aI_1, ↓aI_2, ↓nI_0, ↓nI_1, ↓lS_0, ↓lS_s, ↓aI_int, ↓aI_str, ↓aI_row, ↓aI_b2, ↓aI_i1, ↓aI_i2, ↓aI_i3, ↓aI_i4, ↓aI_i5, ↓aI_i6, ↓oZ_abyz, ↓oZ_az, ↓cZ_lenLm, ↓cZ_lenTm, ↓cZ_lenP, ↓oZ_ixP, ↓sD_P, ↓cZ_lstP, ↓cZ_abs, ↓cZ_int, ↓cZ_intB, ↓cZ_tup, ↓cZ_lstL, ↓cZ_lstT, ↓cZ_all, ↓cZ_any, ↓cZ_max2, ↓cZ_min2, ↓cZ_sum, ↓cZ_sorted, ↓xE_int, ↓xE_bl, ↓xE_str, ↓xE_non, ↓xE_var, ↓xE_op, ↓xE_neg, ↓xE_nt, ↓xE_an, ↓xE_or, ↓xE_ch, ↓xE_isN, ↓xE_notN, ↓xE_ife, ↓xE_tup, ↓xE_lst, ↓xE_sl, ↓sl1_T, ↓sl1_L, ↓xE_cb, ↓xE_isa, ↓xE_call, ↓xE_callX, ↓xE_lget, ↓xE_srs, xE_revT, ↓xE_revL, ↓xE_sw, ↓s2D_s, ↓xB_sif, ↓xE_dget2, ↓xT_tl, ↓xI_ky, ↓xS_lk0, ↓xR_x, ↓xR_call, ↓xR_lst, ↓xR_e, ↓xB_ret, ↓xB_iff, ↓xS_tryK, ↓xS_never, ↓xS_mv0, ↓xS_aug, ↓eF_l, noF_nil, noF_dat, noF_no, noF_lst, noF_dK, ↓sK_j, ↓xE_callS, ↓xE_lc, ↓xE_lc2, ↓xE_callL, ↓rvA_d, ↓tw2_t, ↓sN_0, ↓sN_s, ↓xE_lrg, ↓xE_trg, ↓xE_pop, ↓xE_idxL, ↓sT_s, ↓xE_idxT, ↓xE_dget, ↓xE_din, ↓xE_dnin, ↓xE_dset, ↓xE_dspV, ↓xE_dspC, ↓xE_dspM, ↓tE_d, ↓xI_rng3, ↓xA_nil, ↓xA_cons, ↓xT_te, ↓xT_tb, ↓xT_nt, ↓xT_an, ↓xT_or, ↓xT_yes, ↓xT_lend, ↓xP_no, ↓xP_at, ↓xI_rng1, ↓xI_rng2, ↓xI_u, ↓xI_en, ↓xI_enl, ↓xG_nm, ↓xG_tup, ↓xGs_nil, ↓xGs_cons, ↓sV_d, ↓sV_n, ↓sV_w, ↓rV_d, ↓rV_n, ↓rV_w, ↓rV_o, ↓xS_set, ↓xS_asg, ↓xS_seti, ↓xS_app, ↓xS_newD, ↓xS_dput, ↓xS_drop, ↓xS_dropX, ↓xS_raise, ↓xS_tryC, ↓xS_ret, ↓xS_retN, ↓xS_iff, ↓xS_for, ↓xS_wh, ↓xS_brk, ↓xS_cont, ↓xS_nx, ↓xS_seq, ↓xS_fz, ↓fzK_l, ↓fzK_d, ↓fzK_n, ↓fzK_D, ↓kS_nx, ↓kS_rt, ↓kS_bk, ↓kS_ct, ↓out1_rt, ↓out2_rt, ↓xE_allIn, ↓xE_inC, ↓xE_isB, ↓strD_s, ↓u_b_check_machine_1, ↓i1, ↓i2, d1, d2, Bool.false_eq_true, ge_iff_le]
    exact ⟨e2, L4⟩
  obtain ⟨e2, L4⟩ := U
  have un : mD L rows g = .tuple [.tuple (L.map .str), .tuple (rows.map tupI), tupI g] := rfl
  rw [x_check_machine]
  unfold machB
  cases q0 : lettersB L with
  | false =>
    rw [q0] at CL
    simp only [Bool.false_eq_true, if_false] at CL
    simp (config := { implicitDefEqProofs := false }) (disch := walk_at "side") only [↓reduceIte, decide_eq_true_eq, decide_true, decide_false, Bool.not_true, Bool.not_false, Bool.false_eq_true, Int.reduceEq, Int.reduceLT, Int.reduceLE, Int.reduceNeg, Int.reduceToNat, ↓okI, ↓okI2, ↓aV_d, ↓aV_o, ↓aV_n, ↓aV_w, ↓dV_d, ↓dV_wD, ↓aV_wD, ↓dO_d, ↓kV_w, ↓xE_dinD, ↓xE_dninD, ↓xE_dgetD, ↓xE_fnv, ↓xE_callF, ↓xE_callE, ↓xE_isaT, ↓xE_dspb, ↓xI_ukd, ↓xS_retD, ↓xS_fzD, ↓fzKD_D, ↓fzKD_d, ↓dV_n, ↓dV_w, ↓gE_0, ↓gE_s, ↓eL_l, ↓eD_l, ↓eV_d, ↓eV_l, ↓nA_d, ↓nA_o, ↓iD_i, ↓bD_b, ↓kD_i, ↓kD_s, ↓zD_d, ↓vZ_d, ↓vZ_n, ↓sR_0, ↓sR_s, ↓sK_n, ↓sK_0, ↓lD_l, ↓sD_l, ↓sD_t, ↓tD_t, ↓dA_nil, ↓dA_d, ↓dN_nil, ↓dN_c, ↓oZ_addI, ↓oZ_addS, ↓oZ_addT, ↓oZ_addL, ↓oZ_sub, ↓oZ_mul, ↓oZ_mulT, ↓oZ_mulL, ↓oZ_fdiv, ↓oZ_mod, ↓oZ_pow, ↓oZ_eqI, ↓oZ_eqS, ↓oZ_neS, ↓oZ_neI, ↓oZ_lt, ↓oZ_le, ↓oZ_gt, ↓oZ_ge, ↓oZ_ixL, ↓oZ_ixT, ↓aI_0, ↓aI_1, ↓aI_2, ↓nI_0, ↓nI_1, ↓lS_0, ↓lS_s, ↓aI_int, ↓aI_str, ↓aI_row, ↓aI_b2, ↓aI_i1, ↓aI_i2, ↓aI_i3, ↓aI_i4, ↓aI_i5, ↓aI_i6, ↓oZ_abyz, ↓oZ_az, ↓cZ_lenLm, ↓cZ_lenTm, ↓cZ_lenP, ↓oZ_ixP, ↓sD_P, ↓cZ_lstP, ↓cZ_abs, ↓cZ_int, ↓cZ_intB, ↓cZ_tup, ↓cZ_lstL, ↓cZ_lstT, ↓cZ_all, ↓cZ_any, ↓cZ_max2, ↓cZ_min2, ↓cZ_sum, ↓cZ_sorted, ↓xE_int, ↓xE_bl, ↓xE_str, ↓xE_non, ↓xE_var, ↓xE_op, ↓xE_neg, ↓xE_nt, ↓xE_an, ↓xE_or, ↓xE_ch, ↓xE_isN, ↓xE_notN, ↓xE_ife, ↓xE_tup, ↓xE_lst, ↓xE_sl, ↓sl1_T, ↓sl1_L, ↓xE_cb, ↓xE_isa, ↓xE_call, ↓xE_callX, ↓xE_lget, ↓xE_srs, xE_revT, ↓xE_revL, ↓xE_sw, ↓s2D_s, ↓xB_sif, ↓xE_dget2, ↓xT_tl, ↓xI_ky, ↓xS_lk0, ↓xR_x, ↓xR_call, ↓xR_lst, ↓xR_e, ↓xB_ret, ↓xB_iff, ↓xS_tryK, ↓xS_never, ↓xS_mv0, ↓xS_aug, ↓eF_l, noF_nil, noF_dat, noF_no, noF_lst, noF_dK, ↓sK_j, ↓xE_callS, ↓xE_lc, ↓xE_lc2, ↓xE_callL, ↓rvA_d, ↓tw2_t, ↓sN_0, ↓sN_s, ↓xE_lrg, ↓xE_trg, ↓xE_pop, ↓xE_idxL, ↓sT_s, ↓xE_idxT, ↓xE_dget, ↓xE_din, ↓xE_dnin, ↓xE_dset, ↓xE_dspV, ↓xE_dspC, ↓xE_dspM, ↓tE_d, ↓xI_rng3, ↓xA_nil, ↓xA_cons, ↓xT_te, ↓xT_tb, ↓xT_nt, ↓xT_an, ↓xT_or, ↓xT_yes, ↓xT_lend, ↓xP_no, ↓xP_at, ↓xI_rng1, ↓xI_rng2, ↓xI_u, ↓xI_en, ↓xI_enl, ↓xG_nm, ↓xG_tup, ↓xGs_nil, ↓xGs_cons, ↓sV_d, ↓sV_n, ↓sV_w, ↓rV_d, ↓rV_n, ↓rV_w, ↓rV_o, ↓xS_set, ↓xS_asg, ↓xS_seti, ↓xS_app, ↓xS_newD, ↓xS_dput, ↓xS_drop, ↓xS_dropX, ↓xS_raise, ↓xS_tryC, ↓xS_ret, ↓xS_retN, ↓xS_iff, ↓xS_for, ↓xS_wh, ↓xS_brk, ↓xS_cont, ↓xS_nx, ↓xS_seq, ↓xS_fz, ↓fzK_l, ↓fzK_d, ↓fzK_n, ↓fzK_D, ↓kS_nx, ↓kS_rt, ↓kS_bk, ↓kS_ct, ↓out1_rt, ↓out2_rt, ↓xE_allIn, ↓xE_inC, ↓xE_isB, ↓strD_s, ↓u_c_check_machine, un, ↓CL, Bool.false_and, ↓out3_exY, eRet, Bool.false_eq_true]
  | true =>
    rw [q0] at CL
    simp only [if_true] at CL
    by_cases h1 : (1 : Int) ≤ (rows.length : Int)
    case neg =>
      have d1 := decide_eq_false h1
      simp (config := { implicitDefEqProofs := false }) (disch := walk_at "side") only [↓reduceIte, decide_eq_true_eq, decide_true, decide_false, Bool.not_true, Bool.not_false, Bool.false_eq_true, Int.reduceEq, Int.reduceLT, Int.reduceLE, Int.reduceNeg, Int.reduceToNat, ↓okI, ↓okI2, ↓aV_d, ↓aV_o, ↓aV_n, ↓aV_w, ↓dV_d, ↓dV_wD, ↓aV_wD, ↓dO_d, ↓kV_w, ↓xE_dinD, ↓xE_dninD, ↓xE_dgetD, ↓xE_fnv, ↓xE_callF, ↓xE_callE, ↓xE_isaT, ↓xE_dspb, ↓xI_ukd, ↓xS_retD, ↓xS_fzD, ↓fzKD_D, ↓fzKD_d, ↓dV_n, ↓dV_w, ↓gE_0, ↓gE_s, ↓eL_l, ↓eD_l, ↓eV_d, ↓eV_l, ↓nA_d, ↓nA_o, ↓iD_i, ↓bD_b, ↓kD_i, ↓kD_s, ↓zD_d, ↓vZ_d, ↓vZ_n, ↓sR_0, ↓sR_s, ↓sK_n, ↓sK_0, ↓lD_l, ↓sD_l, ↓sD_t, ↓tD_t, ↓dA_nil, ↓dA_d, ↓dN_nil, ↓dN_c, ↓oZ_addI, ↓oZ_addS, ↓oZ_addT, ↓oZ_addL, ↓oZ_sub, ↓oZ_mul, ↓oZ_mulT, ↓oZ_mulL, ↓oZ_fdiv, ↓oZ_mod, ↓oZ_pow, ↓oZ_eqI, ↓oZ_eqS, ↓oZ_neS, ↓oZ_neI, ↓oZ_lt, ↓oZ_le, ↓oZ_gt, ↓oZ_ge, ↓oZ_ixL, ↓oZ_ixT, ↓aI_0, ↓aI_1, ↓aI_2, ↓nI_0, ↓nI_1, ↓lS_0, ↓lS_s, ↓aI_int, ↓aI_str, ↓aI_row, ↓aI_b2, ↓aI_i1, ↓aI_i2, ↓aI_i3, ↓aI_i4, ↓aI_i5, ↓aI_i6, ↓oZ_abyz, ↓oZ_az, ↓cZ_lenLm, ↓cZ_lenTm, ↓cZ_lenP, ↓oZ_ixP, ↓sD_P, ↓cZ_lstP, ↓cZ_abs, ↓cZ_int, ↓cZ_intB, ↓cZ_tup, ↓cZ_lstL, ↓cZ_lstT, ↓cZ_all, ↓cZ_any, ↓cZ_max2, ↓cZ_min2, ↓cZ_sum, ↓cZ_sorted, ↓xE_int, ↓xE_bl, ↓xE_str, ↓xE_non, ↓xE_var, ↓xE_op, ↓xE_neg, ↓xE_nt, ↓xE_an, ↓xE_or, ↓xE_ch, ↓xE_isN, ↓xE_notN, ↓xE_ife, ↓xE_tup, ↓xE_lst, ↓xE_sl, ↓sl1_T, ↓sl1_L, ↓xE_cb, ↓xE_isa, ↓xE_call, ↓xE_callX, ↓xE_lget, ↓xE_srs, xE_revT, ↓xE_revL, ↓xE_sw, ↓s2D_s, ↓xB_sif, ↓xE_dget2, ↓xT_tl, ↓xI_ky, ↓xS_lk0, ↓xR_x, ↓xR_call, ↓xR_lst, ↓xR_e, ↓xB_ret, ↓xB_iff, ↓xS_tryK, ↓xS_never, ↓xS_mv0, ↓xS_aug, ↓eF_l, noF_nil, noF_dat, noF_no, noF_lst, noF_dK, ↓sK_j, ↓xE_callS, ↓xE_lc, ↓xE_lc2, ↓xE_callL, ↓rvA_d, ↓tw2_t, ↓sN_0, ↓sN_s, ↓xE_lrg, ↓xE_trg, ↓xE_pop, ↓xE_idxL, ↓sT_s, ↓xE_idxT, ↓xE_dget, ↓xE_din, ↓xE_dnin, ↓xE_dset, ↓xE_dspV, ↓xE_dspC, ↓xE_dspM, ↓tE_d, ↓xI_rng3, ↓xA_nil, ↓xA_cons, ↓xT_te, ↓xT_tb, ↓xT_nt, ↓xT_an, ↓xT_or, ↓xT_yes, ↓xT_lend, ↓xP_no, ↓xP_at, ↓xI_rng1, ↓xI_rng2, ↓xI_u, ↓xI_en, ↓xI_enl, ↓xG_nm, ↓xG_tup, ↓xGs_nil, ↓xGs_cons, ↓sV_d, ↓sV_n, ↓sV_w, ↓rV_d, ↓rV_n, ↓rV_w, ↓rV_o, ↓xS_set, ↓xS_asg, ↓xS_seti, ↓xS_app, ↓xS_newD, ↓xS_dput, ↓xS_drop, ↓xS_dropX, ↓xS_raise, ↓xS_tryC, ↓xS_ret, ↓xS_retN, ↓xS_iff, ↓xS_for, ↓xS_wh, ↓xS_brk, ↓xS_cont, ↓xS_nx, ↓xS_seq, ↓xS_fz, ↓fzK_l, ↓fzK_d, ↓fzK_n, ↓fzK_D, ↓kS_nx, ↓kS_rt, ↓kS_bk, ↓kS_ct, ↓out1_rt, ↓out2_rt, ↓xE_allIn, ↓xE_inC, ↓xE_isB, ↓strD_s, ↓u_c_check_machine, un, ↓CL, ↓lnR, d1, Bool.true_and, Bool.false_and, Bool.not_false, ↓out3_exY, eRet, Bool.false_eq_true]
    have d1 := decide_eq_true h1
    by_cases h2 : (rows.length : Int) ≤ 8
    case neg =>
      have d2 := decide_eq_false h2
      simp (config := { implicitDefEqProofs := false }) (disch := walk_at "side") only [↓reduceIte, decide_eq_true_eq, decide_true, decide_false, Bool.not_true, Bool.not_false, Bool.false_eq_true, Int.reduceEq, Int.reduceLT, Int.reduceLE, Int.reduceNeg, Int.reduceToNat, ↓okI, ↓okI2, ↓aV_d, ↓aV_o, ↓aV_n, ↓aV_w, ↓dV_d, ↓dV_wD, ↓aV_wD, ↓dO_d, ↓kV_w, ↓xE_dinD, ↓xE_dninD, ↓xE_dgetD, ↓xE_fnv, ↓xE_callF, ↓xE_callE, ↓xE_isaT, ↓xE_dspb, ↓xI_ukd, ↓xS_retD, ↓xS_fzD, ↓fzKD_D, ↓fzKD_d, ↓dV_n, ↓dV_w, ↓gE_0, ↓gE_s, ↓eL_l, ↓eD_l, ↓eV_d, ↓eV_l, ↓nA_d, ↓nA_o, ↓iD_i, ↓bD_b, ↓kD_i, ↓kD_s, ↓zD_d, ↓vZ_d, ↓vZ_n, ↓sR_0, ↓sR_s, ↓sK_n, ↓sK_0, ↓lD_l, ↓sD_l, ↓sD_t, ↓tD_t, ↓dA_nil, ↓dA_d, ↓dN_nil, ↓dN_c, ↓oZ_addI, ↓oZ_addS, ↓oZ_addT, ↓oZ_addL, ↓oZ_sub, ↓oZ_mul, ↓oZ_mulT, ↓oZ_mulL, ↓oZ_fdiv, ↓oZ_mod, ↓oZ_pow, ↓oZ_eqI, ↓oZ_eqS, ↓oZ_neS, ↓oZ_neI, ↓oZ_lt, ↓oZ_le, ↓oZ_gt, ↓oZ_ge, ↓oZ_ixL, ↓oZ_ixT, ↓aI_0, ↓aI_1, ↓aI_2, ↓nI_0, ↓nI_1, ↓lS_0, ↓lS_s, ↓aI_int, ↓aI_str, ↓aI_row, ↓aI_b2, ↓aI_i1, ↓aI_i2, ↓aI_i3, ↓aI_i4, ↓aI_i5, ↓aI_i6, ↓oZ_abyz, ↓oZ_az, ↓cZ_lenLm, ↓cZ_lenTm, ↓cZ_lenP, ↓oZ_ixP, ↓sD_P, ↓cZ_lstP, ↓cZ_abs, ↓cZ_int, ↓cZ_intB, ↓cZ_tup, ↓cZ_lstL, ↓cZ_lstT, ↓cZ_all, ↓cZ_any, ↓cZ_max2, ↓cZ_min2, ↓cZ_sum, ↓cZ_sorted, ↓xE_int, ↓xE_bl, ↓xE_str, ↓xE_non, ↓xE_var, ↓xE_op, ↓xE_neg, ↓xE_nt, ↓xE_an, ↓xE_or, ↓xE_ch, ↓xE_isN, ↓xE_notN, ↓xE_ife, ↓xE_tup, ↓xE_lst, ↓xE_sl, ↓sl1_T, ↓sl1_L, ↓xE_cb, ↓xE_isa, ↓xE_call, ↓xE_callX, ↓xE_lget, ↓xE_srs, xE_revT, ↓xE_revL, ↓xE_sw, ↓s2D_s, ↓xB_sif, ↓xE_dget2, ↓xT_tl, ↓xI_ky, ↓xS_lk0, ↓xR_x, ↓xR_call, ↓xR_lst, ↓xR_e, ↓xB_ret, ↓xB_iff, ↓xS_tryK, ↓xS_never, ↓xS_mv0, ↓xS_aug, ↓eF_l, noF_nil, noF_dat, noF_no, noF_lst, noF_dK, ↓sK_j, ↓xE_callS, ↓xE_lc, ↓xE_lc2, ↓xE_callL, ↓rvA_d, ↓tw2_t, ↓sN_0, ↓sN_s, ↓xE_lrg, ↓xE_trg, ↓xE_pop, ↓xE_idxL, ↓sT_s, ↓xE_idxT, ↓xE_dget, ↓xE_din, ↓xE_dnin, ↓xE_dset, ↓xE_dspV, ↓xE_dspC, ↓xE_dspM, ↓tE_d, ↓xI_rng3, ↓xA_nil, ↓xA_cons, ↓xT_te, ↓xT_tb, ↓xT_nt, ↓xT_an, ↓xT_or, ↓xT_yes, ↓xT_lend, ↓xP_no, ↓xP_at, ↓xI_rng1, ↓xI_rng2, ↓xI_u, ↓xI_en, ↓xI_enl, ↓xG_nm, ↓xG_tup, ↓xGs_nil, ↓xGs_cons, ↓sV_d, ↓sV_n, ↓sV_w, ↓rV_d, ↓rV_n, ↓rV_w, ↓rV_o, ↓xS_set, ↓xS_asg, ↓xS_seti, ↓xS_app, ↓xS_newD, ↓xS_dput, ↓xS_drop, ↓xS_dropX, ↓xS_raise, ↓xS_tryC, ↓xS_ret, ↓xS_retN, ↓xS_iff, ↓xS_for, ↓xS_wh, ↓xS_brk, ↓xS_cont, ↓xS_nx, ↓xS_seq, ↓xS_fz, ↓fzK_l, ↓fzK_d, ↓fzK_n, ↓fzK_D, ↓kS_nx, ↓kS_rt, ↓kS_bk, ↓kS_ct, ↓out1_rt, ↓out2_rt, ↓xE_allIn, ↓xE_inC, ↓xE_isB, ↓strD_s, ↓u_c_check_machine, un, ↓CL, ↓lnR, d1, d2, Bool.true_and, Bool.false_and, Bool.and_false, Bool.not_false, ↓out3_exY, eRet, Bool.false_eq_true]
    have d2 := decide_eq_true h2
    rw [un] at L3 L4
    cases q1 : rows.all (rowB L.length rows.length) with
    | false =>
      rw [q1, if_neg (by decide)] at L3
      simp (config := { implicitDefEqProofs := false }) (disch := walk_at "side") only [↓reduceIte, decide_eq_true_eq, decide_true, decide_false, Bool.not_true, Bool.not_false, Bool.false_eq_true, Int.reduceEq, Int.reduceLT, Int.reduceLE, Int.reduceNeg, Int.reduceToNat, ↓okI, ↓okI2, ↓aV_d, ↓aV_o, ↓aV_n, ↓aV_w, ↓dV_d, ↓dV_wD, ↓aV_wD, ↓dO_d, ↓kV_w, ↓xE_dinD, ↓xE_dninD, ↓xE_dgetD, ↓xE_fnv, ↓xE_callF, ↓xE_callE, ↓xE_isaT, ↓xE_dspb, ↓xI_ukd, ↓xS_retD, ↓xS_fzD, ↓fzKD_D, ↓fzKD_d, ↓dV_n, ↓dV_w, ↓gE_0, ↓gE_s, ↓eL_l, ↓eD_l, ↓eV_d, ↓eV_l, ↓nA_d, ↓nA_o, ↓iD_i, ↓bD_b, ↓kD_i, ↓kD_s, ↓zD_d, ↓vZ_d, ↓vZ_n, ↓sR_0, ↓sR_s, ↓sK_n, ↓sK_0, ↓lD_l, ↓sD_l, ↓sD_t, ↓tD_t, ↓dA_nil, ↓dA_d, ↓dN_nil, ↓dN_c, ↓oZ_addI, ↓oZ_addS, ↓oZ_addT, ↓oZ_addL, ↓oZ_sub, ↓oZ_mul, ↓oZ_mulT, ↓oZ_mulL, ↓oZ_fdiv, ↓oZ_mod, ↓oZ_pow, ↓oZ_eqI, ↓oZ_eqS, ↓oZ_neS, ↓oZ_neI, ↓oZ_lt, ↓oZ_le, ↓oZ_gt, ↓oZ_ge, ↓oZ_ixL, ↓oZ_ixT, ↓aI_0, ↓aI_1, ↓aI_2, ↓nI_0, ↓nI_1, ↓lS_0, ↓lS_s, ↓aI_int, ↓aI_str, ↓aI_row, ↓aI_b2, ↓aI_i1, ↓aI_i2, ↓aI_i3, ↓aI_i4, ↓aI_i5, ↓aI_i6, ↓oZ_abyz, ↓oZ_az, ↓cZ_lenLm, ↓cZ_lenTm, ↓cZ_lenP, ↓oZ_ixP, ↓sD_P, ↓cZ_lstP, ↓cZ_abs, ↓cZ_int, ↓cZ_intB, ↓cZ_tup, ↓cZ_lstL, ↓cZ_lstT, ↓cZ_all, ↓cZ_any, ↓cZ_max2, ↓cZ_min2, ↓cZ_sum, ↓cZ_sorted, ↓xE_int, ↓xE_bl, ↓xE_str, ↓xE_non, ↓xE_var, ↓xE_op, ↓xE_neg, ↓xE_nt, ↓xE_an, ↓xE_or, ↓xE_ch, ↓xE_isN, ↓xE_notN, ↓xE_ife, ↓xE_tup, ↓xE_lst, ↓xE_sl, ↓sl1_T, ↓sl1_L, ↓xE_cb, ↓xE_isa, ↓xE_call, ↓xE_callX, ↓xE_lget, ↓xE_srs, xE_revT, ↓xE_revL, ↓xE_sw, ↓s2D_s, ↓xB_sif, ↓xE_dget2, ↓xT_tl, ↓xI_ky, ↓xS_lk0, ↓xR_x, ↓xR_call, ↓xR_lst, ↓xR_e, ↓xB_ret, ↓xB_iff, ↓xS_tryK, ↓xS_never, ↓xS_mv0, ↓xS_aug, ↓eF_l, noF_nil, noF_dat, noF_no, noF_lst, noF_dK, ↓sK_j, ↓xE_callS, ↓xE_lc, ↓xE_lc2, ↓xE_callL, ↓rvA_d, ↓tw2_t, ↓sN_0, ↓sN_s, ↓xE_lrg, ↓xE_trg, ↓xE_pop, ↓xE_idxL, ↓sT_s, ↓xE_idxT, ↓xE_dget, ↓xE_din, ↓xE_dnin, ↓xE_dset, ↓xE_dspV, ↓xE_dspC, ↓xE_dspM, ↓tE_d, ↓xI_rng3, ↓xA_nil, ↓xA_cons, ↓xT_te, ↓xT_tb, ↓xT_nt, ↓xT_an, ↓xT_or, ↓xT_yes, ↓xT_lend, ↓xP_no, ↓xP_at, ↓xI_rng1, ↓xI_rng2, ↓xI_u, ↓xI_en, ↓xI_enl, ↓xG_nm, ↓xG_tup, ↓xGs_nil, ↓xGs_cons, ↓sV_d, ↓sV_n, ↓sV_w, ↓rV_d, ↓rV_n, ↓rV_w, ↓rV_o, ↓xS_set, ↓xS_asg, ↓xS_seti, ↓xS_app, ↓xS_newD, ↓xS_dput, ↓xS_drop, ↓xS_dropX, ↓xS_raise, ↓xS_tryC, ↓xS_ret, ↓xS_retN, ↓xS_iff, ↓xS_for, ↓xS_wh, ↓xS_brk, ↓xS_cont, ↓xS_nx, ↓xS_seq, ↓xS_fz, ↓fzK_l, ↓fzK_d, ↓fzK_n, ↓fzK_D, ↓kS_nx, ↓kS_rt, ↓kS_bk, ↓kS_ct, ↓out1_rt, ↓out2_rt, ↓xE_allIn, ↓xE_inC, ↓xE_isB, ↓strD_s, ↓u_c_check_machine, un, ↓CL, ↓lnR, d1, d2, Bool.true_and, Bool.false_and, Bool.and_false, Bool.not_true, ↓fK_s L3, ↓kS_exY, ↓out3_exY, eRet, Bool.false_eq_true]
    | true =>
      rw [q1, if_pos rfl] at L3
      cases q2 : g.all (roomB rows.length) with
      | false =>
        rw [q2] at CG
        simp only [Bool.false_eq_true, if_false] at CG
        simp (config := { implicitDefEqProofs := false }) (disch := walk_at "side") only [↓reduceIte, decide_eq_true_eq, decide_true, decide_false, Bool.not_true, Bool.not_false, Bool.false_eq_true, Int.reduceEq, Int.reduceLT, Int.reduceLE, Int.reduceNeg, Int.reduceToNat, ↓okI, ↓okI2, ↓aV_d, ↓aV_o, ↓aV_n, ↓aV_w, ↓dV_d, ↓dV_wD, ↓aV_wD, ↓dO_d, ↓kV_w, ↓xE_dinD, ↓xE_dninD, ↓xE_dgetD, ↓xE_fnv, ↓xE_callF, ↓xE_callE, ↓xE_isaT, ↓xE_dspb, ↓xI_ukd, ↓xS_retD, ↓xS_fzD, ↓fzKD_D, ↓fzKD_d, ↓dV_n, ↓dV_w, ↓gE_0, ↓gE_s, ↓eL_l, ↓eD_l, ↓eV_d, ↓eV_l, ↓nA_d, ↓nA_o, ↓iD_i, ↓bD_b, ↓kD_i, ↓kD_s, ↓zD_d, ↓vZ_d, ↓vZ_n, ↓sR_0, ↓sR_s, ↓sK_n, ↓sK_0, ↓lD_l, ↓sD_l, ↓sD_t, ↓tD_t, ↓dA_nil, ↓dA_d, ↓dN_nil, ↓dN_c, ↓oZ_addI, ↓oZ_addS, ↓oZ_addT, ↓oZ_addL, ↓oZ_sub, ↓oZ_mul, ↓oZ_mulT, ↓oZ_mulL, ↓oZ_fdiv, ↓oZ_mod, ↓oZ_pow, ↓oZ_eqI, ↓oZ_eqS, ↓oZ_neS, ↓oZ_neI, ↓oZ_lt, ↓oZ_le, ↓oZ_gt, ↓oZ_ge, ↓oZ_ixL, ↓oZ_ixT, ↓aI_0, ↓aI_1, ↓aI_2, ↓nI_0, ↓nI_1, ↓lS_0, ↓lS_s, ↓aI_int, ↓aI_str, ↓aI_row, ↓aI_b2, ↓aI_i1, ↓aI_i2, ↓aI_i3, ↓aI_i4, ↓aI_i5, ↓aI_i6, ↓oZ_abyz, ↓oZ_az, ↓cZ_lenLm, ↓cZ_lenTm, ↓cZ_lenP, ↓oZ_ixP, ↓sD_P, ↓cZ_lstP, ↓cZ_abs, ↓cZ_int, ↓cZ_intB, ↓cZ_tup, ↓cZ_lstL, ↓cZ_lstT, ↓cZ_all, ↓cZ_any, ↓cZ_max2, ↓cZ_min2, ↓cZ_sum, ↓cZ_sorted, ↓xE_int, ↓xE_bl, ↓xE_str, ↓xE_non, ↓xE_var, ↓xE_op, ↓xE_neg, ↓xE_nt, ↓xE_an, ↓xE_or, ↓xE_ch, ↓xE_isN, ↓xE_notN, ↓xE_ife, ↓xE_tup, ↓xE_lst, ↓xE_sl, ↓sl1_T, ↓sl1_L, ↓xE_cb, ↓xE_isa, ↓xE_call, ↓xE_callX, ↓xE_lget, ↓xE_srs, xE_revT, ↓xE_revL, ↓xE_sw, ↓s2D_s, ↓xB_sif, ↓xE_dget2, ↓xT_tl, ↓xI_ky, ↓xS_lk0, ↓xR_x, ↓xR_call, ↓xR_lst, ↓xR_e, ↓xB_ret, ↓xB_iff, ↓xS_tryK, ↓xS_never, ↓xS_mv0, ↓xS_aug, ↓eF_l, noF_nil, noF_dat, noF_no, noF_lst, noF_dK, ↓sK_j, ↓xE_callS, ↓xE_lc, ↓xE_lc2, ↓xE_callL, ↓rvA_d, ↓tw2_t, ↓sN_0, ↓sN_s, ↓xE_lrg, ↓xE_trg, ↓xE_pop, ↓xE_idxL, ↓sT_s, ↓xE_idxT, ↓xE_dget, ↓xE_din, ↓xE_dnin, ↓xE_dset, ↓xE_dspV, ↓xE_dspC, ↓xE_dspM, ↓tE_d, ↓xI_rng3, ↓xA_nil, ↓xA_cons, ↓xT_te, ↓xT_tb, ↓xT_nt, ↓xT_an, ↓xT_or, ↓xT_yes, ↓xT_lend, ↓xP_no, ↓xP_at, ↓xI_rng1, ↓xI_rng2, ↓xI_u, ↓xI_en, ↓xI_enl, ↓xG_nm, ↓xG_tup, ↓xGs_nil, ↓xGs_cons, ↓sV_d, ↓sV_n, ↓sV_w, ↓rV_d, ↓rV_n, ↓rV_w, ↓rV_o, ↓xS_set, ↓xS_asg, ↓xS_seti, ↓xS_app, ↓xS_newD, ↓xS_dput, ↓xS_drop, ↓xS_dropX, ↓xS_raise, ↓xS_tryC, ↓xS_ret, ↓xS_retN, ↓xS_iff, ↓xS_for, ↓xS_wh, ↓xS_brk, ↓xS_cont, ↓xS_nx, ↓xS_seq, ↓xS_fz, ↓fzK_l, ↓fzK_d, ↓fzK_n, ↓fzK_D, ↓kS_nx, ↓kS_rt, ↓kS_bk, ↓kS_ct, ↓out1_rt, ↓out2_rt, ↓xE_allIn, ↓xE_inC, ↓xE_isB, ↓strD_s, ↓u_c_check_machine, un, ↓CL, ↓lnR, d1, d2, Bool.true_and, Bool.false_and, Bool.and_false, Bool.not_true, ↓fK_s L3, ↓CG, ↓out3_exY, eRet, Bool.false_eq_true]
      | true =>
        rw [q2] at CG
        simp only [if_true] at CG
        cases q3 : (List.range (g.length - 1)).all (upB g) with
        | false =>
          rw [q3, if_neg (by decide)] at L4
          simp (config := { implicitDefEqProofs := false }) (disch := walk_at "side") only [↓reduceIte, decide_eq_true_eq, decide_true, decide_false, Bool.not_true, Bool.not_false, Bool.false_eq_true, Int.reduceEq, Int.reduceLT, Int.reduceLE, Int.reduceNeg, Int.reduceToNat, ↓okI, ↓okI2, ↓aV_d, ↓aV_o, ↓aV_n, ↓aV_w, ↓dV_d, ↓dV_wD, ↓aV_wD, ↓dO_d, ↓kV_w, ↓xE_dinD, ↓xE_dninD, ↓xE_dgetD, ↓xE_fnv, ↓xE_callF, ↓xE_callE, ↓xE_isaT, ↓xE_dspb, ↓xI_ukd, ↓xS_retD, ↓xS_fzD, ↓fzKD_D, ↓fzKD_d, ↓dV_n, ↓dV_w, ↓gE_0, ↓gE_s, ↓eL_l, ↓eD_l, ↓eV_d, ↓eV_l, ↓nA_d, ↓nA_o, ↓iD_i, ↓bD_b, ↓kD_i, ↓kD_s, ↓zD_d, ↓vZ_d, ↓vZ_n, ↓sR_0, ↓sR_s, ↓sK_n, ↓sK_0, ↓lD_l, ↓sD_l, ↓sD_t, ↓tD_t, ↓dA_nil, ↓dA_d, ↓dN_nil, ↓dN_c, ↓oZ_addI, ↓oZ_addS, ↓oZ_addT, ↓oZ_addL, ↓oZ_sub, ↓oZ_mul, ↓oZ_mulT, ↓oZ_mulL, ↓oZ_fdiv, ↓oZ_mod, ↓oZ_pow, ↓oZ_eqI, ↓oZ_eqS, ↓oZ_neS, ↓oZ_neI, ↓oZ_lt, ↓oZ_le, ↓oZ_gt, ↓oZ_ge, ↓oZ_ixL, ↓oZ_ixT, ↓aI_0, ↓aI_1, ↓aI_2, ↓nI_0, ↓nI_1, ↓lS_0, ↓lS_s, ↓aI_int, ↓aI_str, ↓aI_row, ↓aI_b2, ↓aI_i1, ↓aI_i2, ↓aI_i3, ↓aI_i4, ↓aI_i5, ↓aI_i6, ↓oZ_abyz, ↓oZ_az, ↓cZ_lenLm, ↓cZ_lenTm, ↓cZ_lenP, ↓oZ_ixP, ↓sD_P, ↓cZ_lstP, ↓cZ_abs, ↓cZ_int, ↓cZ_intB, ↓cZ_tup, ↓cZ_lstL, ↓cZ_lstT, ↓cZ_all, ↓cZ_any, ↓cZ_max2, ↓cZ_min2, ↓cZ_sum, ↓cZ_sorted, ↓xE_int, ↓xE_bl, ↓xE_str, ↓xE_non, ↓xE_var, ↓xE_op, ↓xE_neg, ↓xE_nt, ↓xE_an, ↓xE_or, ↓xE_ch, ↓xE_isN, ↓xE_notN, ↓xE_ife, ↓xE_tup, ↓xE_lst, ↓xE_sl, ↓sl1_T, ↓sl1_L, ↓xE_cb, ↓xE_isa, ↓xE_call, ↓xE_callX, ↓xE_lget, ↓xE_srs, xE_revT, ↓xE_revL, ↓xE_sw, ↓s2D_s, ↓xB_sif, ↓xE_dget2, ↓xT_tl, ↓xI_ky, ↓xS_lk0, ↓xR_x, ↓xR_call, ↓xR_lst, ↓xR_e, ↓xB_ret, ↓xB_iff, ↓xS_tryK, ↓xS_never, ↓xS_mv0, ↓xS_aug, ↓eF_l, noF_nil, noF_dat, noF_no, noF_lst, noF_dK, ↓sK_j, ↓xE_callS, ↓xE_lc, ↓xE_lc2, ↓xE_callL, ↓rvA_d, ↓tw2_t, ↓sN_0, ↓sN_s, ↓xE_lrg, ↓xE_trg, ↓xE_pop, ↓xE_idxL, ↓sT_s, ↓xE_idxT, ↓xE_dget, ↓xE_din, ↓xE_dnin, ↓xE_dset, ↓xE_dspV, ↓xE_dspC, ↓xE_dspM, ↓tE_d, ↓xI_rng3, ↓xA_nil, ↓xA_cons, ↓xT_te, ↓xT_tb, ↓xT_nt, ↓xT_an, ↓xT_or, ↓xT_yes, ↓xT_lend, ↓xP_no, ↓xP_at, ↓xI_rng1, ↓xI_rng2, ↓xI_u, ↓xI_en, ↓xI_enl, ↓xG_nm, ↓xG_tup, ↓xGs_nil, ↓xGs_cons, ↓sV_d, ↓sV_n, ↓sV_w, ↓rV_d, ↓rV_n, ↓rV_w, ↓rV_o, ↓xS_set, ↓xS_asg, ↓xS_seti, ↓xS_app, ↓xS_newD, ↓xS_dput, ↓xS_drop, ↓xS_dropX, ↓xS_raise, ↓xS_tryC, ↓xS_ret, ↓xS_retN, ↓xS_iff, ↓xS_for, ↓xS_wh, ↓xS_brk, ↓xS_cont, ↓xS_nx, ↓xS_seq, ↓xS_fz, ↓fzK_l, ↓fzK_d, ↓fzK_n, ↓fzK_D, ↓kS_nx, ↓kS_rt, ↓kS_bk, ↓kS_ct, ↓out1_rt, ↓out2_rt, ↓xE_allIn, ↓xE_inC, ↓xE_isB, ↓strD_s, ↓u_c_check_machine, un, ↓CL, ↓lnR, ↓lnG, d1, d2, Bool.true_and, Bool.false_and, Bool.and_false, Bool.not_true, ↓fK_s L3, ↓CG, ↓fK_s L4, ↓kS_exY, ↓out3_exY, eRet, Bool.false_eq_true]
        | true =>
          rw [q3, if_pos rfl] at L4
          simp (config := { implicitDefEqProofs := false }) (disch := walk_at "side") only [↓reduceIte, decide_eq_true_eq, decide_true, decide_false, Bool.not_true, Bool.not_false, Bool.false_eq_true, Int.reduceEq, Int.reduceLT, Int.reduceLE, Int.reduceNeg, Int.reduceToNat, ↓okI, ↓okI2, ↓aV_d, ↓aV_o, ↓aV_n, ↓aV_w, ↓dV_d, ↓dV_wD, ↓aV_wD, ↓dO_d, ↓kV_w, ↓xE_dinD, ↓xE_dninD, ↓xE_dgetD, ↓xE_fnv, ↓xE_callF, ↓xE_callE, ↓xE_isaT, ↓xE_dspb, ↓xI_ukd, ↓xS_retD, ↓xS_fzD, ↓fzKD_D, ↓fzKD_d, ↓dV_n, ↓dV_w, ↓gE_0, ↓gE_s, ↓eL_l, ↓eD_l, ↓eV_d, ↓eV_l, ↓nA_d, ↓nA_o, ↓iD_i, ↓bD_b, ↓kD_i, ↓kD_s, ↓zD_d, ↓vZ_d, ↓vZ_n, ↓sR_0, ↓sR_s, ↓sK_n, ↓sK_0, ↓lD_l, ↓sD_l, ↓sD_t, ↓tD_t, ↓dA_nil, ↓dA_d, ↓dN_nil, ↓dN_c, ↓oZ_addI, ↓oZ_addS, ↓oZ_addT, ↓oZ_addL, ↓oZ_sub, ↓oZ_mul, ↓oZ_mulT, ↓oZ_mulL, ↓oZ_fdiv, ↓oZ_mod, ↓oZ_pow, ↓oZ_eqI, ↓oZ_eqS, ↓oZ_neS, ↓oZ_neI, ↓oZ_lt, ↓oZ_le, ↓oZ_gt, ↓oZ_ge, ↓oZ_ixL, ↓oZ_ixT, ↓aI_0, ↓aI_1, ↓aI_2, ↓nI_0, ↓nI_1, ↓lS_0, ↓lS_s, ↓aI_int, ↓aI_str, ↓aI_row, ↓aI_b2, ↓aI_i1, ↓aI_i2, ↓aI_i3, ↓aI_i4, ↓aI_i5, ↓aI_i6, ↓oZ_abyz, ↓oZ_az, ↓cZ_lenLm, ↓cZ_lenTm, ↓cZ_lenP, ↓oZ_ixP, ↓sD_P, ↓cZ_lstP, ↓cZ_abs, ↓cZ_int, ↓cZ_intB, ↓cZ_tup, ↓cZ_lstL, ↓cZ_lstT, ↓cZ_all, ↓cZ_any, ↓cZ_max2, ↓cZ_min2, ↓cZ_sum, ↓cZ_sorted, ↓xE_int, ↓xE_bl, ↓xE_str, ↓xE_non, ↓xE_var, ↓xE_op, ↓xE_neg, ↓xE_nt, ↓xE_an, ↓xE_or, ↓xE_ch, ↓xE_isN, ↓xE_notN, ↓xE_ife, ↓xE_tup, ↓xE_lst, ↓xE_sl, ↓sl1_T, ↓sl1_L, ↓xE_cb, ↓xE_isa, ↓xE_call, ↓xE_callX, ↓xE_lget, ↓xE_srs, xE_revT, ↓xE_revL, ↓xE_sw, ↓s2D_s, ↓xB_sif, ↓xE_dget2, ↓xT_tl, ↓xI_ky, ↓xS_lk0, ↓xR_x, ↓xR_call, ↓xR_lst, ↓xR_e, ↓xB_ret, ↓xB_iff, ↓xS_tryK, ↓xS_never, ↓xS_mv0, ↓xS_aug, ↓eF_l, noF_nil, noF_dat, noF_no, noF_lst, noF_dK, ↓sK_j, ↓xE_callS, ↓xE_lc, ↓xE_lc2, ↓xE_callL, ↓rvA_d, ↓tw2_t, ↓sN_0, ↓sN_s, ↓xE_lrg, ↓xE_trg, ↓xE_pop, ↓xE_idxL, ↓sT_s, ↓xE_idxT, ↓xE_dget, ↓xE_din, ↓xE_dnin, ↓xE_dset, ↓xE_dspV, ↓xE_dspC, ↓xE_dspM, ↓tE_d, ↓xI_rng3, ↓xA_nil, ↓xA_cons, ↓xT_te, ↓xT_tb, ↓xT_nt, ↓xT_an, ↓xT_or, ↓xT_yes, ↓xT_lend, ↓xP_no, ↓xP_at, ↓xI_rng1, ↓xI_rng2, ↓xI_u, ↓xI_en, ↓xI_enl, ↓xG_nm, ↓xG_tup, ↓xGs_nil, ↓xGs_cons, ↓sV_d, ↓sV_n, ↓sV_w, ↓rV_d, ↓rV_n, ↓rV_w, ↓rV_o, ↓xS_set, ↓xS_asg, ↓xS_seti, ↓xS_app, ↓xS_newD, ↓xS_dput, ↓xS_drop, ↓xS_dropX, ↓xS_raise, ↓xS_tryC, ↓xS_ret, ↓xS_retN, ↓xS_iff, ↓xS_for, ↓xS_wh, ↓xS_brk, ↓xS_cont, ↓xS_nx, ↓xS_seq, ↓xS_fz, ↓fzK_l, ↓fzK_d, ↓fzK_n, ↓fzK_D, ↓kS_nx, ↓kS_rt, ↓kS_bk, ↓kS_ct, ↓out1_rt, ↓out2_rt, ↓xE_allIn, ↓xE_inC, ↓xE_isB, ↓strD_s, ↓u_c_check_machine, un, ↓CL, ↓lnR, ↓lnG, d1, d2, Bool.true_and, Bool.false_and, Bool.and_self, Bool.not_true, ↓fK_s L3, ↓CG, ↓fK_s L4, ↓out3_exY, eRet, Bool.false_eq_true]
end CS
namespace CS
open PySem PySem.Spec PyProof.Rows L2 DL EV
local macro_rules | `(tactic| walk_at "side") => `(tactic| first | omega | (simp only [List.length_cons, List.length_nil, List.length_map, List.length_append, List.length_range, PySem.sizeLine_eq]; omega) | assumption | (simp; done))
end CS
namespace CS
open PySem PySem.Spec PyProof.Rows L2 DL EV
local macro_rules | `(tactic| walk_at "side") => `(tactic| first | omega | (simp only [List.length_cons, List.length_nil, List.length_map, List.length_append, List.length_range, PySem.sizeLine_eq]; omega) | assumption | (simp; done))
theorem fixS_lt {x : Str} : ∀ {L : List Str}, x ∈ L → fixS x L < L.length
  | [], h => by cases h
  | y :: L, h => by
    unfold fixS
    split
    · simp
    · rename_i e
      have := fixS_lt ((List.mem_cons.mp h).resolve_left fun z => e z.symm)
      simp only [List.length_cons]; omega
end CS
namespace CS
open PySem PySem.Spec PyProof.Rows L2 DL EV
local macro_rules | `(tactic| walk_at "side") => `(tactic| first | omega | (simp only [List.length_cons, List.length_nil, List.length_map, List.length_append, List.length_range, PySem.sizeLine_eq]; omega) | assumption | (simp; done))
/-- a comprehension with draws in its test -/
theorem lc_sel {f : D → Rho → Option (Option D × Rho)} (I : Nat → Rho) (p : Nat → Bool) (F : Nat → D) : ∀ (l : List D) (i0 : Nat), (∀ i, i < l.length → f (nthD l i) (I (i0 + i)) = some (if p (i0 + i) then some (F (i0 + i)) else none, I (i0 + i + 1))) → lcGo f l (I i0) = some (((List.range' i0 l.length).filter p).map F, I (i0 + l.length))
  | [], i0, _ => rfl
  | x :: xs, i0, h => by
    have h0 : f x (I i0) = some (if p i0 then some (F i0) else none, I (i0 + 1)) := h 0 (by simp)
    have ih := lc_sel I p F xs (i0 + 1) fun i hi => by
      have := h (i + 1) (by simp; omega)
      rw [show i0 + (i + 1) = i0 + 1 + i by omega] at this
      exact this
    rw [show i0 + 1 + xs.length = i0 + (x :: xs).length by rw [List.length_cons]; omega] at ih
    rw [List.length_cons, List.range'_succ, List.filter_cons]
    unfold lcGo
    rw [h0]
    cases p i0 with
    | true =>
      show (lcGo f xs (I (i0 + 1))).bind _ = _
      rw [ih]; rfl
    | false =>
      show (lcGo f xs (I (i0 + 1))).bind _ = _
      rw [ih]; rfl
/-- a machine whose rows and rooms are in range -/
structure okMach (L : List Str) (rows : List (List Int)) (g : List Int) : Prop where
  len : 1 ≤ rows.length ∧ rows.length ≤ 8
  row : ∀ r ∈ rows, r.length = L.length ∧ ∀ x ∈ r, 0 ≤ x ∧ x < (rows.length : Int)
  rooms : ∀ x ∈ g, 0 ≤ x ∧ x < (rows.length : Int)
  up : g.Pairwise (· < ·)
  few : g.length ≤ 8
theorem machine2_eq {N : List Int} {k : Int} {L : List Str} {n : Nat} (G : Good N) (h0 : 0 ≤ k) (h1 : k + 100 ≤ KMax) (hn : 1 ≤ n ∧ n ≤ 8) (hL : 1 ≤ L.length ∧ L.length ≤ 4) : ∃ rows g k', rows.length = n ∧ okMach L rows g ∧ k ≤ k' ∧ k' ≤ k + 50 ∧ f_l_machine_2 (stAt N k) [.tuple (L.map .str), .int (n : Nat)] = some (.dat (mD L rows g), stAt N k') := by
  have hK : KMax = 1000000000 := rfl
  have hmp : (0 : Int) < (n : Int) := by omega
  have tn : ((n : Nat) : Int).toNat = n := Int.toNat_natCast _
  have zr : (rgD 0 ((n : Nat) : Int).toNat).length < sizeLine := by rw [rgD_len, sizeLine_eq]; omega
  have zL : (L.map PyData.str).length < sizeLine := by rw [List.length_map, sizeLine_eq]; omega
  obtain ⟨ρ2, L2, k2, rows, e4, e6, rfl, g1, g2, g3, g4⟩ := for_ex0 (f := trn [0] (.nm 4) b_l_machine_2_7) (fun i ρ => ∃ k' rows e4 e6, ρ = [.own (.lst (stAt N k')), .dat (.tuple (L.map .str)), .dat (.int (n : Nat)), .own (.lst (rows.map tupI)), e4, .no, e6] ∧ k ≤ k' ∧ k' ≤ k + 4 * (i : Nat) ∧ rows.length = i ∧ ∀ r ∈ rows, r.length = L.length ∧ ∀ x ∈ r, 0 ≤ x ∧ x < (n : Int)) (l := rgD 0 ((n : Nat) : Int).toNat) (ρ := [.own (.lst (stAt N k)), .dat (.tuple (L.map .str)), .dat (.int (n : Nat)), .own (.lst []), .no, .no, .no])
    ⟨k, [], .no, .no, rfl, by omega, by omega, rfl, fun c m => nomatch m⟩ (fun i ρ hi ⟨k', rows, e4, e6, e, g1, g2, g3, g4⟩ => by
      subst e
      rw [rgD_len, tn] at hi
      rw [rgD_at (by rw [tn]; exact hi), trn_x, Int.zero_add]
      have D1 := lc_inv0 (f := ltn [0] 6 .yes e_l_machine_2_5) (fun j => [.own (.lst (stAt N (k' + (j : Nat)))), .dat (.tuple (L.map .str)), .dat (.int (n : Nat)), .own (.lst (rows.map tupI)), .dat (.int (i : Nat)), .no, .no]) (fun j => .int (nxt N (k' + (j : Nat)) (n : Nat))) (l := L.map .str) (ρ := [.own (.lst (stAt N k')), .dat (.tuple (L.map .str)), .dat (.int (n : Nat)), .own (.lst (rows.map tupI)), .dat (.int (i : Nat)), .no, .no]) (ρ' := [.own (.lst (stAt N (k' + (L.length : Nat)))), .dat (.tuple (L.map .str)), .dat (.int (n : Nat)), .own (.lst (rows.map tupI)), .dat (.int (i : Nat)), .no, .no]) (by simp) (by rw [List.length_map]) fun j hj => by
        rw [List.length_map] at hj
        rw [ltn_x, nthD_map (f := PyData.str) "" hj]
        simp (config := { implicitDefEqProofs := false }) (disch := walk_at "side") only [↓reduceIte, decide_eq_true_eq, decide_true, decide_false, Bool.not_true, Bool.not_false, Bool.false_eq_true, Int.reduceEq, Int.reduceLT, Int.reduceLE, Int.reduceNeg, Int.reduceToNat, ↓okI, ↓okI2, ↓aV_d, ↓aV_o, ↓aV_n, ↓aV_w, ↓dV_d, ↓dV_wD, ↓aV_wD, ↓dO_d, ↓kV_w, ↓xE_dinD, ↓xE_dninD, ↓xE_dgetD, ↓xE_fnv, ↓xE_callF, ↓xE_callE, ↓xE_isaT, ↓xE_dspb, ↓xI_ukd, ↓xS_retD, ↓xS_fzD, ↓fzKD_D, ↓fzKD_d, ↓dV_n, ↓dV_w, ↓gE_0, ↓gE_s, ↓eL_l, ↓eD_l, ↓eV_d, ↓eV_l, ↓nA_d, ↓nA_o, ↓iD_i, ↓bD_b, ↓kD_i, ↓kD_s, ↓zD_d, ↓vZ_d, ↓vZ_n, ↓sR_0, ↓sR_s, ↓sK_n, ↓sK_0, ↓lD_l, ↓sD_l, ↓sD_t, ↓tD_t, ↓dA_nil, ↓dA_d, ↓dN_nil, ↓dN_c, ↓oZ_addI, ↓oZ_addS, ↓oZ_addT, ↓oZ_addL, ↓oZ_sub, ↓oZ_mul, ↓oZ_mulT, ↓oZ_mulL, ↓oZ_fdiv, ↓oZ_mod, ↓oZ_pow, ↓oZ_eqI, ↓oZ_eqS, ↓oZ_neS, ↓oZ_neI, ↓oZ_lt, ↓oZ_le, ↓oZ_gt, ↓oZ_ge, ↓oZ_ixL, ↓oZ_ixT, ↓aI_0, ↓aI_1, ↓aI_2, ↓nI_0, ↓nI_1, ↓lS_0, ↓lS_s, ↓aI_int, ↓aI_str, ↓aI_row, ↓aI_b2, ↓aI_i1, ↓aI_i2, ↓aI_i3, ↓aI_i4, ↓aI_i5, ↓aI_i6, ↓oZ_abyz, ↓oZ_az, ↓cZ_lenLm, ↓cZ_lenTm, ↓cZ_lenP, ↓oZ_ixP, ↓sD_P, ↓cZ_lstP, ↓cZ_abs, ↓cZ_int, ↓cZ_intB, ↓cZ_tup, ↓cZ_lstL, ↓cZ_lstT, ↓cZ_all, ↓cZ_any, ↓cZ_max2, ↓cZ_min2, ↓cZ_sum, ↓cZ_sorted, ↓xE_int, ↓xE_bl, ↓xE_str, ↓xE_non, ↓xE_var, ↓xE_op, ↓xE_neg, ↓xE_nt, ↓xE_an, ↓xE_or, ↓xE_ch, ↓xE_isN, ↓xE_notN, ↓xE_ife, ↓xE_tup, ↓xE_lst, ↓xE_sl, ↓sl1_T, ↓sl1_L, ↓xE_cb, ↓xE_isa, ↓xE_call, ↓xE_callX, ↓xE_lget, ↓xE_srs, xE_revT, ↓xE_revL, ↓xE_sw, ↓s2D_s, ↓xB_sif, ↓xE_dget2, ↓xT_tl, ↓xI_ky, ↓xS_lk0, ↓xR_x, ↓xR_call, ↓xR_lst, ↓xR_e, ↓xB_ret, ↓xB_iff, ↓xS_tryK, ↓xS_never, ↓xS_mv0, ↓xS_aug, ↓eF_l, noF_nil, noF_dat, noF_no, noF_lst, noF_dK, ↓sK_j, ↓xE_callS, ↓xE_lc, ↓xE_lc2, ↓xE_callL, ↓rvA_d, ↓tw2_t, ↓sN_0, ↓sN_s, ↓xE_lrg, ↓xE_trg, ↓xE_pop, ↓xE_idxL, ↓sT_s, ↓xE_idxT, ↓xE_dget, ↓xE_din, ↓xE_dnin, ↓xE_dset, ↓xE_dspV, ↓xE_dspC, ↓xE_dspM, ↓tE_d, ↓xI_rng3, ↓xA_nil, ↓xA_cons, ↓xT_te, ↓xT_tb, ↓xT_nt, ↓xT_an, ↓xT_or, ↓xT_yes, ↓xT_lend, ↓xP_no, ↓xP_at, ↓xI_rng1, ↓xI_rng2, ↓xI_u, ↓xI_en, ↓xI_enl, ↓xG_nm, ↓xG_tup, ↓xGs_nil, ↓xGs_cons, ↓sV_d, ↓sV_n, ↓sV_w, ↓rV_d, ↓rV_n, ↓rV_w, ↓rV_o, ↓xS_set, ↓xS_asg, ↓xS_seti, ↓xS_app, ↓xS_newD, ↓xS_dput, ↓xS_drop, ↓xS_dropX, ↓xS_raise, ↓xS_tryC, ↓xS_ret, ↓xS_retN, ↓xS_iff, ↓xS_for, ↓xS_wh, ↓xS_brk, ↓xS_cont, ↓xS_nx, ↓xS_seq, ↓xS_fz, ↓fzK_l, ↓fzK_d, ↓fzK_n, ↓fzK_D, ↓kS_nx, ↓kS_rt, ↓kS_bk, ↓kS_ct, ↓out1_rt, ↓out2_rt, ↓xE_allIn, ↓xE_inC, ↓xE_isB, ↓strD_s, ↓u_e_l_machine_2_5, ↓nextK]
        rw [show k' + (j : Int) + 1 = k' + ((j + 1 : Nat) : Int) by omega]
      have em : (List.range (L.map PyData.str).length).map (fun j : Nat => PyData.int (nxt N (k' + (j : Nat)) (n : Nat))) = (drawsOf N k' (n : Nat) L.length).map .int := by
        rw [List.length_map]
        unfold drawsOf
        rw [List.map_map]
        rfl
      rw [em] at D1
      have z2 : (rows.map tupI).length < sizeLine := by rw [List.length_map, sizeLine_eq]; omega
      have ok : (drawsOf N k' (n : Nat) L.length).length = L.length ∧ ∀ x ∈ drawsOf N k' (n : Nat) L.length, 0 ≤ x ∧ x < (n : Int) := by
        refine ⟨by unfold drawsOf; rw [List.length_map, List.length_range], fun x m => ?_⟩
        obtain ⟨j, _, rfl⟩ := List.mem_map.mp m
        exact ⟨nxt_lo hmp, nxt_hi hmp⟩
      refine ⟨_, ?_, k' + (L.length : Nat), rows ++ [drawsOf N k' (n : Nat) L.length], .dat (.int (i : Nat)), .no, rfl, by omega, by omega, by rw [List.length_append, g3]; rfl, fun r m => ?_⟩
      · simp (config := { implicitDefEqProofs := false }) (disch := walk_at "side") only [↓reduceIte, decide_eq_true_eq, decide_true, decide_false, Bool.not_true, Bool.not_false, Bool.false_eq_true, Int.reduceEq, Int.reduceLT, Int.reduceLE, Int.reduceNeg, Int.reduceToNat, ↓okI, ↓okI2, ↓aV_d, ↓aV_o, ↓aV_n, ↓aV_w, ↓dV_d, ↓dV_wD, ↓aV_wD, ↓dO_d, ↓kV_w, ↓xE_dinD, ↓xE_dninD, ↓xE_dgetD, ↓xE_fnv, ↓xE_callF, ↓xE_callE, ↓xE_isaT, ↓xE_dspb, ↓xI_ukd, ↓xS_retD, ↓xS_fzD, ↓fzKD_D, ↓fzKD_d, ↓dV_n, ↓dV_w, ↓gE_0, ↓gE_s, ↓eL_l, ↓eD_l, ↓eV_d, ↓eV_l, ↓nA_d, ↓nA_o, ↓iD_i, ↓bD_b, ↓kD_i, ↓kD_s, ↓zD_d, ↓vZ_d, ↓vZ_n, ↓sR_0, ↓sR_s, ↓sK_n, ↓sK_0, ↓lD_l, ↓sD_l, ↓sD_t, ↓tD_t, ↓dA_nil, ↓dA_d, ↓dN_nil, ↓dN_c, ↓oZ_addI, ↓oZ_addS, ↓oZ_addT, ↓oZ_addL, ↓oZ_sub, ↓oZ_mul, ↓oZ_mulT, ↓oZ_mulL, ↓oZ_fdiv, ↓oZ_mod, ↓oZ_pow, ↓oZ_eqI, ↓oZ_eqS, ↓oZ_neS, ↓oZ_neI, ↓oZ_lt, ↓oZ_le, ↓oZ_gt, ↓oZ_ge, ↓oZ_ixL, ↓oZ_ixT, ↓aI_0, ↓aI_1, ↓aI_2, ↓nI_0, ↓nI_1, ↓lS_0, ↓lS_s, ↓aI_int, ↓aI_str, ↓aI_row, ↓aI_b2, ↓aI_i1, ↓aI_i2, ↓aI_i3, ↓aI_i4, ↓aI_i5, ↓aI_i6, ↓oZ_abyz, ↓oZ_az, ↓cZ_lenLm, ↓cZ_lenTm, ↓cZ_lenP, ↓oZ_ixP, ↓sD_P, ↓cZ_lstP, ↓cZ_abs, ↓cZ_int, ↓cZ_intB, ↓cZ_tup, ↓cZ_lstL, ↓cZ_lstT, ↓cZ_all, ↓cZ_any, ↓cZ_max2, ↓cZ_min2, ↓cZ_sum, ↓cZ_sorted, ↓xE_int, ↓xE_bl, ↓xE_str, ↓xE_non, ↓xE_var, ↓xE_op, ↓xE_neg, ↓xE_nt, ↓xE_an, ↓xE_or, ↓xE_ch, ↓xE_isN, ↓xE_notN, ↓xE_ife, ↓xE_tup, ↓xE_lst, ↓xE_sl, ↓sl1_T, ↓sl1_L, ↓xE_cb, ↓xE_isa, ↓xE_call, ↓xE_callX, ↓xE_lget, ↓xE_srs, xE_revT, ↓xE_revL, ↓xE_sw, ↓s2D_s, ↓xB_sif, ↓xE_dget2, ↓xT_tl, ↓xI_ky, ↓xS_lk0, ↓xR_x, ↓xR_call, ↓xR_lst, ↓xR_e, ↓xB_ret, ↓xB_iff, ↓xS_tryK, ↓xS_never, ↓xS_mv0, ↓xS_aug, ↓eF_l, noF_nil, noF_dat, noF_no, noF_lst, noF_dK, ↓sK_j, ↓xE_callS, ↓xE_lc, ↓xE_lc2, ↓xE_callL, ↓rvA_d, ↓tw2_t, ↓sN_0, ↓sN_s, ↓xE_lrg, ↓xE_trg, ↓xE_pop, ↓xE_idxL, ↓sT_s, ↓xE_idxT, ↓xE_dget, ↓xE_din, ↓xE_dnin, ↓xE_dset, ↓xE_dspV, ↓xE_dspC, ↓xE_dspM, ↓tE_d, ↓xI_rng3, ↓xA_nil, ↓xA_cons, ↓xT_te, ↓xT_tb, ↓xT_nt, ↓xT_an, ↓xT_or, ↓xT_yes, ↓xT_lend, ↓xP_no, ↓xP_at, ↓xI_rng1, ↓xI_rng2, ↓xI_u, ↓xI_en, ↓xI_enl, ↓xG_nm, ↓xG_tup, ↓xGs_nil, ↓xGs_cons, ↓sV_d, ↓sV_n, ↓sV_w, ↓rV_d, ↓rV_n, ↓rV_w, ↓rV_o, ↓xS_set, ↓xS_asg, ↓xS_seti, ↓xS_app, ↓xS_newD, ↓xS_dput, ↓xS_drop, ↓xS_dropX, ↓xS_raise, ↓xS_tryC, ↓xS_ret, ↓xS_retN, ↓xS_iff, ↓xS_for, ↓xS_wh, ↓xS_brk, ↓xS_cont, ↓xS_nx, ↓xS_seq, ↓xS_fz, ↓fzK_l, ↓fzK_d, ↓fzK_n, ↓fzK_D, ↓kS_nx, ↓kS_rt, ↓kS_bk, ↓kS_ct, ↓out1_rt, ↓out2_rt, ↓xE_allIn, ↓xE_inC, ↓xE_isB, ↓strD_s, ↓u_b_l_machine_2_7, ↓lK_s D1]
        rw [List.map_append]
        rfl
      · rcases List.mem_append.mp m with m | m
        · exact g4 r m
        · rw [List.mem_singleton.mp m]; exact ok)
  rw [rgD_len, tn] at g2 g3
  have S1 := lc_sel (f := ltn [0] 4 t_l_machine_2_3 e_l_machine_2_1) (fun j => [.own (.lst (stAt N (k2 + (j : Nat)))), .dat (.tuple (L.map .str)), .dat (.int (n : Nat)), .own (.lst (rows.map tupI)), .no, .no, e6]) (fun j => decide (nxt N (k2 + (j : Nat)) 3 = 0)) (fun j => .int (j : Nat)) (rgD 0 ((n : Nat) : Int).toNat) 0 fun j hj => by
    rw [rgD_len, tn] at hj
    rw [Nat.zero_add, rgD_at (by rw [tn]; exact hj), ltn_x, Int.zero_add]
    have K3 : ∀ {β : Type} (kv : Vl → List D → Option β), cKS f_l_next (stAt N (k2 + (j : Nat))) [.int 3] kv = kv (.d (.int (nxt N (k2 + (j : Nat)) 3))) (stAt N (k2 + ((j + 1 : Nat) : Int))) := fun kv => by
      rw [nextK G (by omega) (by omega) (by omega), show k2 + (j : Int) + 1 = k2 + ((j + 1 : Nat) : Int) by omega]
    by_cases q : nxt N (k2 + (j : Nat)) 3 = 0
    · have d := decide_eq_true q
      simp (config := { implicitDefEqProofs := false }) (disch := walk_at "side") only [↓reduceIte, decide_eq_true_eq, decide_true, decide_false, Bool.not_true, Bool.not_false, Bool.false_eq_true, Int.reduceEq, Int.reduceLT, Int.reduceLE, Int.reduceNeg, Int.reduceToNat, ↓okI, ↓okI2, ↓aV_d, ↓aV_o, ↓aV_n, ↓aV_w, ↓dV_d, ↓dV_wD, ↓aV_wD, ↓dO_d, ↓kV_w, ↓xE_dinD, ↓xE_dninD, ↓xE_dgetD, ↓xE_fnv, ↓xE_callF, ↓xE_callE, ↓xE_isaT, ↓xE_dspb, ↓xI_ukd, ↓xS_retD, ↓xS_fzD, ↓fzKD_D, ↓fzKD_d, ↓dV_n, ↓dV_w, ↓gE_0, ↓gE_s, ↓eL_l, ↓eD_l, ↓eV_d, ↓eV_l, ↓nA_d, ↓nA_o, ↓iD_i, ↓bD_b, ↓kD_i, ↓kD_s, ↓zD_d, ↓vZ_d, ↓vZ_n, ↓sR_0, ↓sR_s, ↓sK_n, ↓sK_0, ↓lD_l, ↓sD_l, ↓sD_t, ↓tD_t, ↓dA_nil, ↓dA_d, ↓dN_nil, ↓dN_c, ↓oZ_addI, ↓oZ_addS, ↓oZ_addT, ↓oZ_addL, ↓oZ_sub, ↓oZ_mul, ↓oZ_mulT, ↓oZ_mulL, ↓oZ_fdiv, ↓oZ_mod, ↓oZ_pow, ↓oZ_eqI, ↓oZ_eqS, ↓oZ_neS, ↓oZ_neI, ↓oZ_lt, ↓oZ_le, ↓oZ_gt, ↓oZ_ge, ↓oZ_ixL, ↓oZ_ixT, ↓aI_0, ↓aI_1, ↓aI_2, ↓nI_0, ↓nI_1, ↓lS_0, ↓lS_s, ↓aI_int, ↓aI_str, ↓aI_row, ↓aI_b2, ↓aI_i1, ↓aI_i2, ↓aI_i3, ↓aI_i4, ↓aI_i5, ↓aI_i6, ↓oZ_abyz, ↓oZ_az, ↓cZ_lenLm, ↓cZ_lenTm, ↓cZ_lenP, ↓oZ_ixP, ↓sD_P, ↓cZ_lstP, ↓cZ_abs, ↓cZ_int, ↓cZ_intB, ↓cZ_tup, ↓cZ_lstL, ↓cZ_lstT, ↓cZ_all, ↓cZ_any, ↓cZ_max2, ↓cZ_min2, ↓cZ_sum, ↓cZ_sorted, ↓xE_int, ↓xE_bl, ↓xE_str, ↓xE_non, ↓xE_var, ↓xE_op, ↓xE_neg, ↓xE_nt, ↓xE_an, ↓xE_or, ↓xE_ch, ↓xE_isN, ↓xE_notN, ↓xE_ife, ↓xE_tup, ↓xE_lst, ↓xE_sl, ↓sl1_T, ↓sl1_L, ↓xE_cb, ↓xE_isa, ↓xE_call, ↓xE_callX, ↓xE_lget, ↓xE_srs, xE_revT, ↓xE_revL, ↓xE_sw, ↓s2D_s, ↓xB_sif, ↓xE_dget2, ↓xT_tl, ↓xI_ky, ↓xS_lk0, ↓xR_x, ↓xR_call, ↓xR_lst, ↓xR_e, ↓xB_ret, ↓xB_iff, ↓xS_tryK, ↓xS_never, ↓xS_mv0, ↓xS_aug, ↓eF_l, noF_nil, noF_dat, noF_no, noF_lst, noF_dK, ↓sK_j, ↓xE_callS, ↓xE_lc, ↓xE_lc2, ↓xE_callL, ↓rvA_d, ↓tw2_t, ↓sN_0, ↓sN_s, ↓xE_lrg, ↓xE_trg, ↓xE_pop, ↓xE_idxL, ↓sT_s, ↓xE_idxT, ↓xE_dget, ↓xE_din, ↓xE_dnin, ↓xE_dset, ↓xE_dspV, ↓xE_dspC, ↓xE_dspM, ↓tE_d, ↓xI_rng3, ↓xA_nil, ↓xA_cons, ↓xT_te, ↓xT_tb, ↓xT_nt, ↓xT_an, ↓xT_or, ↓xT_yes, ↓xT_lend, ↓xP_no, ↓xP_at, ↓xI_rng1, ↓xI_rng2, ↓xI_u, ↓xI_en, ↓xI_enl, ↓xG_nm, ↓xG_tup, ↓xGs_nil, ↓xGs_cons, ↓sV_d, ↓sV_n, ↓sV_w, ↓rV_d, ↓rV_n, ↓rV_w, ↓rV_o, ↓xS_set, ↓xS_asg, ↓xS_seti, ↓xS_app, ↓xS_newD, ↓xS_dput, ↓xS_drop, ↓xS_dropX, ↓xS_raise, ↓xS_tryC, ↓xS_ret, ↓xS_retN, ↓xS_iff, ↓xS_for, ↓xS_wh, ↓xS_brk, ↓xS_cont, ↓xS_nx, ↓xS_seq, ↓xS_fz, ↓fzK_l, ↓fzK_d, ↓fzK_n, ↓fzK_D, ↓kS_nx, ↓kS_rt, ↓kS_bk, ↓kS_ct, ↓out1_rt, ↓out2_rt, ↓xE_allIn, ↓xE_inC, ↓xE_isB, ↓strD_s, ↓u_t_l_machine_2_3, ↓u_e_l_machine_2_1, ↓K3, d]
    · have d := decide_eq_false q
      simp (config := { implicitDefEqProofs := false }) (disch := walk_at "side") only [↓reduceIte, decide_eq_true_eq, decide_true, decide_false, Bool.not_true, Bool.not_false, Bool.false_eq_true, Int.reduceEq, Int.reduceLT, Int.reduceLE, Int.reduceNeg, Int.reduceToNat, ↓okI, ↓okI2, ↓aV_d, ↓aV_o, ↓aV_n, ↓aV_w, ↓dV_d, ↓dV_wD, ↓aV_wD, ↓dO_d, ↓kV_w, ↓xE_dinD, ↓xE_dninD, ↓xE_dgetD, ↓xE_fnv, ↓xE_callF, ↓xE_callE, ↓xE_isaT, ↓xE_dspb, ↓xI_ukd, ↓xS_retD, ↓xS_fzD, ↓fzKD_D, ↓fzKD_d, ↓dV_n, ↓dV_w, ↓gE_0, ↓gE_s, ↓eL_l, ↓eD_l, ↓eV_d, ↓eV_l, ↓nA_d, ↓nA_o, ↓iD_i, ↓bD_b, ↓kD_i, ↓kD_s, ↓zD_d, ↓vZ_d, ↓vZ_n, ↓sR_0, ↓sR_s, ↓sK_n, ↓sK_0, ↓lD_l, ↓sD_l, ↓sD_t, ↓tD_t, ↓dA_nil, ↓dA_d, ↓dN_nil, ↓dN_c, ↓oZ_addI, ↓oZ_addS, ↓oZ_addT, ↓oZ_addL, ↓oZ_sub, ↓oZ_mul, ↓oZ_mulT, ↓oZ_mulL, ↓oZ_fdiv, ↓oZ_mod, ↓oZ_pow, ↓oZ_eqI, ↓oZ_eqS, ↓oZ_neS, ↓oZ_neI, ↓oZ_lt, ↓oZ_le, ↓oZ_gt, ↓oZ_ge, ↓oZ_ixL, ↓oZ_ixT, ↓aI_0, ↓aI_1, ↓aI_2, ↓nI_0, ↓nI_1, ↓lS_0, ↓lS_s, ↓aI_int, ↓aI_str, ↓aI_row, ↓aI_b2, ↓aI_i1, ↓aI_i2, ↓aI_i3, ↓aI_i4, ↓aI_i5, ↓aI_i6, ↓oZ_abyz, ↓oZ_az, ↓cZ_lenLm, ↓cZ_lenTm, ↓cZ_lenP, ↓oZ_ixP, ↓sD_P, ↓cZ_lstP, ↓cZ_abs, ↓cZ_int, ↓cZ_intB, ↓cZ_tup, ↓cZ_lstL, ↓cZ_lstT, ↓cZ_all, ↓cZ_any, ↓cZ_max2, ↓cZ_min2, ↓cZ_sum, ↓cZ_sorted, ↓xE_int, ↓xE_bl, ↓xE_str, ↓xE_non, ↓xE_var, ↓xE_op, ↓xE_neg, ↓xE_nt, ↓xE_an, ↓xE_or, ↓xE_ch, ↓xE_isN, ↓xE_notN, ↓xE_ife, ↓xE_tup, ↓xE_lst, ↓xE_sl, ↓sl1_T, ↓sl1_L, ↓xE_cb, ↓xE_isa, ↓xE_call, ↓xE_callX, ↓xE_lget, ↓xE_srs, xE_revT, ↓xE_revL, ↓xE_sw, ↓s2D_s, ↓xB_sif, ↓xE_dget2, ↓xT_tl, ↓xI_ky, ↓xS_lk0, ↓xR_x, ↓xR_call, ↓xR_lst, ↓xR_e, ↓xB_ret, ↓xB_iff, ↓xS_tryK, ↓xS_never, ↓xS_mv0, ↓xS_aug, ↓eF_l, noF_nil, noF_dat, noF_no, noF_lst, noF_dK, ↓sK_j, ↓xE_callS, ↓xE_lc, ↓xE_lc2, ↓xE_callL, ↓rvA_d, ↓tw2_t, ↓sN_0, ↓sN_s, ↓xE_lrg, ↓xE_trg, ↓xE_pop, ↓xE_idxL, ↓sT_s, ↓xE_idxT, ↓xE_dget, ↓xE_din, ↓xE_dnin, ↓xE_dset, ↓xE_dspV, ↓xE_dspC, ↓xE_dspM, ↓tE_d, ↓xI_rng3, ↓xA_nil, ↓xA_cons, ↓xT_te, ↓xT_tb, ↓xT_nt, ↓xT_an, ↓xT_or, ↓xT_yes, ↓xT_lend, ↓xP_no, ↓xP_at, ↓xI_rng1, ↓xI_rng2, ↓xI_u, ↓xI_en, ↓xI_enl, ↓xG_nm, ↓xG_tup, ↓xGs_nil, ↓xGs_cons, ↓sV_d, ↓sV_n, ↓sV_w, ↓rV_d, ↓rV_n, ↓rV_w, ↓rV_o, ↓xS_set, ↓xS_asg, ↓xS_seti, ↓xS_app, ↓xS_newD, ↓xS_dput, ↓xS_drop, ↓xS_dropX, ↓xS_raise, ↓xS_tryC, ↓xS_ret, ↓xS_retN, ↓xS_iff, ↓xS_for, ↓xS_wh, ↓xS_brk, ↓xS_cont, ↓xS_nx, ↓xS_seq, ↓xS_fz, ↓fzK_l, ↓fzK_d, ↓fzK_n, ↓fzK_D, ↓kS_nx, ↓kS_rt, ↓kS_bk, ↓kS_ct, ↓out1_rt, ↓out2_rt, ↓xE_allIn, ↓xE_inC, ↓xE_isB, ↓strD_s, ↓u_t_l_machine_2_3, ↓u_e_l_machine_2_1, ↓K3, d, Bool.false_eq_true]
  rw [rgD_len, tn, Nat.zero_add, ← List.range_eq_range'] at S1
  generalize hp : (fun j : Nat => decide (nxt N (k2 + (j : Nat)) 3 = 0)) = p at S1
  have eg : ((List.range n).filter p).map (fun j : Nat => PyData.int (j : Nat)) = (((List.range n).filter p).map fun j : Nat => (j : Int)).map .int := by rw [List.map_map]; rfl
  have er : rgD 0 n = rgD 0 ((n : Nat) : Int).toNat := by rw [tn]
  rw [eg, show k2 + ((0 : Nat) : Int) = k2 by omega, er] at S1
  refine ⟨rows, ((List.range n).filter p).map fun j : Nat => (j : Int), k2 + (n : Nat), g3, ⟨by omega, fun r m => by rw [g3]; exact g4 r m, fun x m => ?_, ?_, ?_⟩, by omega, by omega, ?_⟩
  · obtain ⟨j, mj, rfl⟩ := List.mem_map.mp m
    have := List.mem_range.mp (List.mem_filter.mp mj).1
    omega
  · rw [List.pairwise_map]
    exact (List.Pairwise.filter p List.pairwise_lt_range).imp fun h => by omega
  · rw [List.length_map]
    have := List.length_filter_le p (List.range n)
    rw [List.length_range] at this
    omega
  · rw [x_l_machine_2]
    simp (config := { implicitDefEqProofs := false }) (disch := walk_at "side") only [↓reduceIte, decide_eq_true_eq, decide_true, decide_false, Bool.not_true, Bool.not_false, Bool.false_eq_true, Int.reduceEq, Int.reduceLT, Int.reduceLE, Int.reduceNeg, Int.reduceToNat, ↓okI, ↓okI2, ↓aV_d, ↓aV_o, ↓aV_n, ↓aV_w, ↓dV_d, ↓dV_wD, ↓aV_wD, ↓dO_d, ↓kV_w, ↓xE_dinD, ↓xE_dninD, ↓xE_dgetD, ↓xE_fnv, ↓xE_callF, ↓xE_callE, ↓xE_isaT, ↓xE_dspb, ↓xI_ukd, ↓xS_retD, ↓xS_fzD, ↓fzKD_D, ↓fzKD_d, ↓dV_n, ↓dV_w, ↓gE_0, ↓gE_s, ↓eL_l, ↓eD_l, ↓eV_d, ↓eV_l, ↓nA_d, ↓nA_o, ↓iD_i, ↓bD_b, ↓kD_i, ↓kD_s, ↓zD_d, ↓vZ_d, ↓vZ_n, ↓sR_0, ↓sR_s, ↓sK_n, ↓sK_0, ↓lD_l, ↓sD_l, ↓sD_t, ↓tD_t, ↓dA_nil, ↓dA_d, ↓dN_nil, ↓dN_c, ↓oZ_addI, ↓oZ_addS, ↓oZ_addT, ↓oZ_addL, ↓oZ_sub, ↓oZ_mul, ↓oZ_mulT, ↓oZ_mulL, ↓oZ_fdiv, ↓oZ_mod, ↓oZ_pow, ↓oZ_eqI, ↓oZ_eqS, ↓oZ_neS, ↓oZ_neI, ↓oZ_lt, ↓oZ_le, ↓oZ_gt, ↓oZ_ge, ↓oZ_ixL, ↓oZ_ixT, ↓aI_0, ↓aI_1, ↓aI_2, ↓nI_0, ↓nI_1, ↓lS_0, ↓lS_s, ↓aI_int, ↓aI_str, ↓aI_row, ↓aI_b2, ↓aI_i1, ↓aI_i2, ↓aI_i3, ↓aI_i4, ↓aI_i5, ↓aI_i6, ↓oZ_abyz, ↓oZ_az, ↓cZ_lenLm, ↓cZ_lenTm, ↓cZ_lenP, ↓oZ_ixP, ↓sD_P, ↓cZ_lstP, ↓cZ_abs, ↓cZ_int, ↓cZ_intB, ↓cZ_tup, ↓cZ_lstL, ↓cZ_lstT, ↓cZ_all, ↓cZ_any, ↓cZ_max2, ↓cZ_min2, ↓cZ_sum, ↓cZ_sorted, ↓xE_int, ↓xE_bl, ↓xE_str, ↓xE_non, ↓xE_var, ↓xE_op, ↓xE_neg, ↓xE_nt, ↓xE_an, ↓xE_or, ↓xE_ch, ↓xE_isN, ↓xE_notN, ↓xE_ife, ↓xE_tup, ↓xE_lst, ↓xE_sl, ↓sl1_T, ↓sl1_L, ↓xE_cb, ↓xE_isa, ↓xE_call, ↓xE_callX, ↓xE_lget, ↓xE_srs, xE_revT, ↓xE_revL, ↓xE_sw, ↓s2D_s, ↓xB_sif, ↓xE_dget2, ↓xT_tl, ↓xI_ky, ↓xS_lk0, ↓xR_x, ↓xR_call, ↓xR_lst, ↓xR_e, ↓xB_ret, ↓xB_iff, ↓xS_tryK, ↓xS_never, ↓xS_mv0, ↓xS_aug, ↓eF_l, noF_nil, noF_dat, noF_no, noF_lst, noF_dK, ↓sK_j, ↓xE_callS, ↓xE_lc, ↓xE_lc2, ↓xE_callL, ↓rvA_d, ↓tw2_t, ↓sN_0, ↓sN_s, ↓xE_lrg, ↓xE_trg, ↓xE_pop, ↓xE_idxL, ↓sT_s, ↓xE_idxT, ↓xE_dget, ↓xE_din, ↓xE_dnin, ↓xE_dset, ↓xE_dspV, ↓xE_dspC, ↓xE_dspM, ↓tE_d, ↓xI_rng3, ↓xA_nil, ↓xA_cons, ↓xT_te, ↓xT_tb, ↓xT_nt, ↓xT_an, ↓xT_or, ↓xT_yes, ↓xT_lend, ↓xP_no, ↓xP_at, ↓xI_rng1, ↓xI_rng2, ↓xI_u, ↓xI_en, ↓xI_enl, ↓xG_nm, ↓xG_tup, ↓xGs_nil, ↓xGs_cons, ↓sV_d, ↓sV_n, ↓sV_w, ↓rV_d, ↓rV_n, ↓rV_w, ↓rV_o, ↓xS_set, ↓xS_asg, ↓xS_seti, ↓xS_app, ↓xS_newD, ↓xS_dput, ↓xS_drop, ↓xS_dropX, ↓xS_raise, ↓xS_tryC, ↓xS_ret, ↓xS_retN, ↓xS_iff, ↓xS_for, ↓xS_wh, ↓xS_brk, ↓xS_cont, ↓xS_nx, ↓xS_seq, ↓xS_fz, ↓fzK_l, ↓fzK_d, ↓fzK_n, ↓fzK_D, ↓kS_nx, ↓kS_rt, ↓kS_bk, ↓kS_ct, ↓out1_rt, ↓out2_rt, ↓xE_allIn, ↓xE_inC, ↓xE_isB, ↓strD_s, ↓u_c_l_machine_2, ↓fK_s L2, ↓lK_s S1]
    rfl
/-- the room behind -/
def stepM (L : List Str) (rows : List (List Int)) (r : Int) (x : Str) : Int := (rows.getD r.toNat []).getD (fixS x L) 0
def behindI (L : List Str) (rows : List (List Int)) (log : List Str) : Int := log.foldl (stepM L rows) 0
section
variable {L : List Str} {rows : List (List Int)} {g : List Int} {log : List Str}
theorem stepM_ok (M : okMach L rows g) {r : Int} {x : Str} (hr : 0 ≤ r ∧ r < (rows.length : Int)) (hx : x ∈ L) : 0 ≤ stepM L rows r x ∧ stepM L rows r x < (rows.length : Int) := by
  have hm : rows.getD r.toNat [] ∈ rows := by
    rw [List.getD_eq_getElem?_getD, List.getElem?_eq_getElem (by omega : r.toNat < rows.length)]
    exact List.getElem_mem _
  obtain ⟨a, b⟩ := M.row _ hm
  have hl := fixS_lt hx
  refine b _ ?_
  unfold stepM
  rw [List.getD_eq_getElem?_getD (l := rows.getD r.toNat []), List.getElem?_eq_getElem (by omega : fixS x L < (rows.getD r.toNat []).length)]
  exact List.getElem_mem _
theorem behind_ok (M : okMach L rows g) (hlog : ∀ x ∈ log, x ∈ L) : 0 ≤ behindI L rows log ∧ behindI L rows log < (rows.length : Int) := by
  have : ∀ (l : List Str) (r : Int), (∀ x ∈ l, x ∈ L) → 0 ≤ r ∧ r < (rows.length : Int) → 0 ≤ l.foldl (stepM L rows) r ∧ l.foldl (stepM L rows) r < (rows.length : Int) := by
    intro l
    induction l with
    | nil => intro r _ h; exact h
    | cons x l ih => intro r h1 h2; exact ih _ (fun y m => h1 y (List.mem_cons_of_mem _ m)) (stepM_ok M h2 (h1 x List.mem_cons_self))
  have := this log 0 hlog (by have := M.len; omega)
  exact this
theorem ix_rows {β : Type} (M : okMach L rows g) {r : Int} (hr : 0 ≤ r ∧ r < (rows.length : Int)) (kz : Rz → Option β) : oZ .ix (.tuple (rows.map tupI)) (.int r) kz = kz (.d (tupI (rows.getD r.toNat []))) := by rw [oZ_ixT, aI_row hr.1 hr.2]
theorem ix_room {β : Type} (M : okMach L rows g) {r : Int} {x : Str} (hr : 0 ≤ r ∧ r < (rows.length : Int)) (hx : x ∈ L) (kz : Rz → Option β) : oZ .ix (tupI (rows.getD r.toNat [])) (.int (fixS x L : Nat)) kz = kz (.d (.int (stepM L rows r x))) := by
  have hm : rows.getD r.toNat [] ∈ rows := by
    rw [List.getD_eq_getElem?_getD, List.getElem?_eq_getElem (by omega : r.toNat < rows.length)]
    exact List.getElem_mem _
  obtain ⟨a, b⟩ := M.row _ hm
  have hl := fixS_lt hx
  rw [oZ_ixP (by omega) (by omega), Int.toNat_natCast]
  rfl
theorem l_behind_eq (M : okMach L rows g) (hlog : ∀ x ∈ log, x ∈ L) : f_l_behind [mD L rows g, .tuple (log.map .str)] = some (.dat (.int (behindI L rows log))) := by
  have h0 : 0 ≤ (0 : Int) ∧ (0 : Int) < (rows.length : Int) := by have := M.len; omega
  obtain ⟨K, _⟩ := for_fold (PyData.str) (stepM L rows) (fun r e => [.dat (mD L rows g), .dat (.tuple (log.map .str)), .dat (.int r), e, .dat (.tuple (L.map .str)), .dat (.tuple (rows.map tupI)), .dat (tupI g)]) (fun r => 0 ≤ r ∧ r < (rows.length : Int)) (f := trn [] (.nm 3) b_l_behind_1) (xs := log) (s := 0) (e := .no) h0 fun r e x m hr => by
    have hx := hlog x m
    refine ⟨?_, stepM_ok M hr hx⟩
    rw [trn_x]
    have I1 := fun {β : Type} => ix_rows (β := β) M hr
    have I2 := fun {β : Type} => ix_room (β := β) M hr hx
    simp (config := { implicitDefEqProofs := false }) (disch := walk_at "side") only [↓reduceIte, decide_eq_true_eq, decide_true, decide_false, Bool.not_true, Bool.not_false, Bool.false_eq_true, Int.reduceEq, Int.reduceLT, Int.reduceLE, Int.reduceNeg, Int.reduceToNat, ↓okI, ↓okI2, ↓aV_d, ↓aV_o, ↓aV_n, ↓aV_w, ↓dV_d, ↓dV_wD, ↓aV_wD, ↓dO_d, ↓kV_w, ↓xE_dinD, ↓xE_dninD, ↓xE_dgetD, ↓xE_fnv, ↓xE_callF, ↓xE_callE, ↓xE_isaT, ↓xE_dspb, ↓xI_ukd, ↓xS_retD, ↓xS_fzD, ↓fzKD_D, ↓fzKD_d, ↓dV_n, ↓dV_w, ↓gE_0, ↓gE_s, ↓eL_l, ↓eD_l, ↓eV_d, ↓eV_l, ↓nA_d, ↓nA_o, ↓iD_i, ↓bD_b, ↓kD_i, ↓kD_s, ↓zD_d, ↓vZ_d, ↓vZ_n, ↓sR_0, ↓sR_s, ↓sK_n, ↓sK_0, ↓lD_l, ↓sD_l, ↓sD_t, ↓tD_t, ↓dA_nil, ↓dA_d, ↓dN_nil, ↓dN_c, ↓oZ_addI, ↓oZ_addS, ↓oZ_addT, ↓oZ_addL, ↓oZ_sub, ↓oZ_mul, ↓oZ_mulT, ↓oZ_mulL, ↓oZ_fdiv, ↓oZ_mod, ↓oZ_pow, ↓oZ_eqI, ↓oZ_eqS, ↓oZ_neS, ↓oZ_neI, ↓oZ_lt, ↓oZ_le, ↓oZ_gt, ↓oZ_ge, ↓oZ_ixL, ↓oZ_ixT, ↓aI_0, ↓aI_1, ↓aI_2, ↓nI_0, ↓nI_1, ↓lS_0, ↓lS_s, ↓aI_int, ↓aI_str, ↓aI_row, ↓aI_b2, ↓aI_i1, ↓aI_i2, ↓aI_i3, ↓aI_i4, ↓aI_i5, ↓aI_i6, ↓oZ_abyz, ↓oZ_az, ↓cZ_lenLm, ↓cZ_lenTm, ↓cZ_lenP, ↓oZ_ixP, ↓sD_P, ↓cZ_lstP, ↓cZ_abs, ↓cZ_int, ↓cZ_intB, ↓cZ_tup, ↓cZ_lstL, ↓cZ_lstT, ↓cZ_all, ↓cZ_any, ↓cZ_max2, ↓cZ_min2, ↓cZ_sum, ↓cZ_sorted, ↓xE_int, ↓xE_bl, ↓xE_str, ↓xE_non, ↓xE_var, ↓xE_op, ↓xE_neg, ↓xE_nt, ↓xE_an, ↓xE_or, ↓xE_ch, ↓xE_isN, ↓xE_notN, ↓xE_ife, ↓xE_tup, ↓xE_lst, ↓xE_sl, ↓sl1_T, ↓sl1_L, ↓xE_cb, ↓xE_isa, ↓xE_call, ↓xE_callX, ↓xE_lget, ↓xE_srs, xE_revT, ↓xE_revL, ↓xE_sw, ↓s2D_s, ↓xB_sif, ↓xE_dget2, ↓xT_tl, ↓xI_ky, ↓xS_lk0, ↓xR_x, ↓xR_call, ↓xR_lst, ↓xR_e, ↓xB_ret, ↓xB_iff, ↓xS_tryK, ↓xS_never, ↓xS_mv0, ↓xS_aug, ↓eF_l, noF_nil, noF_dat, noF_no, noF_lst, noF_dK, ↓sK_j, ↓xE_callS, ↓xE_lc, ↓xE_lc2, ↓xE_callL, ↓rvA_d, ↓tw2_t, ↓sN_0, ↓sN_s, ↓xE_lrg, ↓xE_trg, ↓xE_pop, ↓xE_idxL, ↓sT_s, ↓xE_idxT, ↓xE_dget, ↓xE_din, ↓xE_dnin, ↓xE_dset, ↓xE_dspV, ↓xE_dspC, ↓xE_dspM, ↓tE_d, ↓xI_rng3, ↓xA_nil, ↓xA_cons, ↓xT_te, ↓xT_tb, ↓xT_nt, ↓xT_an, ↓xT_or, ↓xT_yes, ↓xT_lend, ↓xP_no, ↓xP_at, ↓xI_rng1, ↓xI_rng2, ↓xI_u, ↓xI_en, ↓xI_enl, ↓xG_nm, ↓xG_tup, ↓xGs_nil, ↓xGs_cons, ↓sV_d, ↓sV_n, ↓sV_w, ↓rV_d, ↓rV_n, ↓rV_w, ↓rV_o, ↓xS_set, ↓xS_asg, ↓xS_seti, ↓xS_app, ↓xS_newD, ↓xS_dput, ↓xS_drop, ↓xS_dropX, ↓xS_raise, ↓xS_tryC, ↓xS_ret, ↓xS_retN, ↓xS_iff, ↓xS_for, ↓xS_wh, ↓xS_brk, ↓xS_cont, ↓xS_nx, ↓xS_seq, ↓xS_fz, ↓fzK_l, ↓fzK_d, ↓fzK_n, ↓fzK_D, ↓kS_nx, ↓kS_rt, ↓kS_bk, ↓kS_ct, ↓out1_rt, ↓out2_rt, ↓xE_allIn, ↓xE_inC, ↓xE_isB, ↓strD_s, ↓u_b_l_behind_1, ↓I1, ↓ixS_fix, ↓I2]
  rw [x_l_behind]
  have un : mD L rows g = .tuple [.tuple (L.map .str), .tuple (rows.map tupI), tupI g] := rfl
  rw [un] at K
  simp (config := { implicitDefEqProofs := false }) (disch := walk_at "side") only [↓reduceIte, decide_eq_true_eq, decide_true, decide_false, Bool.not_true, Bool.not_false, Bool.false_eq_true, Int.reduceEq, Int.reduceLT, Int.reduceLE, Int.reduceNeg, Int.reduceToNat, ↓okI, ↓okI2, ↓aV_d, ↓aV_o, ↓aV_n, ↓aV_w, ↓dV_d, ↓dV_wD, ↓aV_wD, ↓dO_d, ↓kV_w, ↓xE_dinD, ↓xE_dninD, ↓xE_dgetD, ↓xE_fnv, ↓xE_callF, ↓xE_callE, ↓xE_isaT, ↓xE_dspb, ↓xI_ukd, ↓xS_retD, ↓xS_fzD, ↓fzKD_D, ↓fzKD_d, ↓dV_n, ↓dV_w, ↓gE_0, ↓gE_s, ↓eL_l, ↓eD_l, ↓eV_d, ↓eV_l, ↓nA_d, ↓nA_o, ↓iD_i, ↓bD_b, ↓kD_i, ↓kD_s, ↓zD_d, ↓vZ_d, ↓vZ_n, ↓sR_0, ↓sR_s, ↓sK_n, ↓sK_0, ↓lD_l, ↓sD_l, ↓sD_t, ↓tD_t, ↓dA_nil, ↓dA_d, ↓dN_nil, ↓dN_c, ↓oZ_addI, ↓oZ_addS, ↓oZ_addT, ↓oZ_addL, ↓oZ_sub, ↓oZ_mul, ↓oZ_mulT, ↓oZ_mulL, ↓oZ_fdiv, ↓oZ_mod, ↓oZ_pow, ↓oZ_eqI, ↓oZ_eqS, ↓oZ_neS, ↓oZ_neI, ↓oZ_lt, ↓oZ_le, ↓oZ_gt, ↓oZ_ge, ↓oZ_ixL, ↓oZ_ixT, ↓aI_0, ↓aI_1, ↓aI_2, ↓nI_0, ↓nI_1, ↓lS_0, ↓lS_s, ↓aI_int, ↓aI_str, ↓aI_row, ↓aI_b2, ↓aI_i1, ↓aI_i2, ↓aI_i3, ↓aI_i4, ↓aI_i5, ↓aI_i6, ↓oZ_abyz, ↓oZ_az, ↓cZ_lenLm, ↓cZ_lenTm, ↓cZ_lenP, ↓oZ_ixP, ↓sD_P, ↓cZ_lstP, ↓cZ_abs, ↓cZ_int, ↓cZ_intB, ↓cZ_tup, ↓cZ_lstL, ↓cZ_lstT, ↓cZ_all, ↓cZ_any, ↓cZ_max2, ↓cZ_min2, ↓cZ_sum, ↓cZ_sorted, ↓xE_int, ↓xE_bl, ↓xE_str, ↓xE_non, ↓xE_var, ↓xE_op, ↓xE_neg, ↓xE_nt, ↓xE_an, ↓xE_or, ↓xE_ch, ↓xE_isN, ↓xE_notN, ↓xE_ife, ↓xE_tup, ↓xE_lst, ↓xE_sl, ↓sl1_T, ↓sl1_L, ↓xE_cb, ↓xE_isa, ↓xE_call, ↓xE_callX, ↓xE_lget, ↓xE_srs, xE_revT, ↓xE_revL, ↓xE_sw, ↓s2D_s, ↓xB_sif, ↓xE_dget2, ↓xT_tl, ↓xI_ky, ↓xS_lk0, ↓xR_x, ↓xR_call, ↓xR_lst, ↓xR_e, ↓xB_ret, ↓xB_iff, ↓xS_tryK, ↓xS_never, ↓xS_mv0, ↓xS_aug, ↓eF_l, noF_nil, noF_dat, noF_no, noF_lst, noF_dK, ↓sK_j, ↓xE_callS, ↓xE_lc, ↓xE_lc2, ↓xE_callL, ↓rvA_d, ↓tw2_t, ↓sN_0, ↓sN_s, ↓xE_lrg, ↓xE_trg, ↓xE_pop, ↓xE_idxL, ↓sT_s, ↓xE_idxT, ↓xE_dget, ↓xE_din, ↓xE_dnin, ↓xE_dset, ↓xE_dspV, ↓xE_dspC, ↓xE_dspM, ↓tE_d, ↓xI_rng3, ↓xA_nil, ↓xA_cons, ↓xT_te, ↓xT_tb, ↓xT_nt, ↓xT_an, ↓xT_or, ↓xT_yes, ↓xT_lend, ↓xP_no, ↓xP_at, ↓xI_rng1, ↓xI_rng2, ↓xI_u, ↓xI_en, ↓xI_enl, ↓xG_nm, ↓xG_tup, ↓xGs_nil, ↓xGs_cons, ↓sV_d, ↓sV_n, ↓sV_w, ↓rV_d, ↓rV_n, ↓rV_w, ↓rV_o, ↓xS_set, ↓xS_asg, ↓xS_seti, ↓xS_app, ↓xS_newD, ↓xS_dput, ↓xS_drop, ↓xS_dropX, ↓xS_raise, ↓xS_tryC, ↓xS_ret, ↓xS_retN, ↓xS_iff, ↓xS_for, ↓xS_wh, ↓xS_brk, ↓xS_cont, ↓xS_nx, ↓xS_seq, ↓xS_fz, ↓fzK_l, ↓fzK_d, ↓fzK_n, ↓fzK_D, ↓kS_nx, ↓kS_rt, ↓kS_bk, ↓kS_ct, ↓out1_rt, ↓out2_rt, ↓xE_allIn, ↓xE_inC, ↓xE_isB, ↓strD_s, ↓u_c_l_behind, un, ↓fK_s K]
  rfl
theorem room_behind_eq (M : okMach L rows g) (hlog : ∀ x ∈ log, x ∈ L) : f_room_behind [mD L rows g, .tuple (log.map .str)] = some (.dat (.int (behindI L rows log))) := by
  have h0 : 0 ≤ (0 : Int) ∧ (0 : Int) < (rows.length : Int) := by have := M.len; omega
  obtain ⟨K, _⟩ := for_fold (PyData.str) (stepM L rows) (fun r e => [.dat (mD L rows g), .dat (.tuple (log.map .str)), .dat (.int r), e, .dat (.tuple (L.map .str)), .dat (.tuple (rows.map tupI)), .dat (tupI g)]) (fun r => 0 ≤ r ∧ r < (rows.length : Int)) (f := trn [] (.nm 3) b_room_behind_1) (xs := log) (s := 0) (e := .no) h0 fun r e x m hr => by
    have hx := hlog x m
    refine ⟨?_, stepM_ok M hr hx⟩
    rw [trn_x]
    have I1 := fun {β : Type} => ix_rows (β := β) M hr
    have I2 := fun {β : Type} => ix_room (β := β) M hr hx
    simp (config := { implicitDefEqProofs := false }) (disch := walk_at "side") only [↓reduceIte, decide_eq_true_eq, decide_true, decide_false, Bool.not_true, Bool.not_false, Bool.false_eq_true, Int.reduceEq, Int.reduceLT, Int.reduceLE, Int.reduceNeg, Int.reduceToNat, ↓okI, ↓okI2, ↓aV_d, ↓aV_o, ↓aV_n, ↓aV_w, ↓dV_d, ↓dV_wD, ↓aV_wD, ↓dO_d, ↓kV_w, ↓xE_dinD, ↓xE_dninD, ↓xE_dgetD, ↓xE_fnv, ↓xE_callF, ↓xE_callE, ↓xE_isaT, ↓xE_dspb, ↓xI_ukd, ↓xS_retD, ↓xS_fzD, ↓fzKD_D, ↓fzKD_d, ↓dV_n, ↓dV_w, ↓gE_0, ↓gE_s, ↓eL_l, ↓eD_l, ↓eV_d, ↓eV_l, ↓nA_d, ↓nA_o, ↓iD_i, ↓bD_b, ↓kD_i, ↓kD_s, ↓zD_d, ↓vZ_d, ↓vZ_n, ↓sR_0, ↓sR_s, ↓sK_n, ↓sK_0, ↓lD_l, ↓sD_l, ↓sD_t, ↓tD_t, ↓dA_nil, ↓dA_d, ↓dN_nil, ↓dN_c, ↓oZ_addI, ↓oZ_addS, ↓oZ_addT, ↓oZ_addL, ↓oZ_sub, ↓oZ_mul, ↓oZ_mulT, ↓oZ_mulL, ↓oZ_fdiv, ↓oZ_mod, ↓oZ_pow, ↓oZ_eqI, ↓oZ_eqS, ↓oZ_neS, ↓oZ_neI, ↓oZ_lt, ↓oZ_le, ↓oZ_gt, ↓oZ_ge, ↓oZ_ixL, ↓oZ_ixT, ↓aI_0, ↓aI_1, ↓aI_2, ↓nI_0, ↓nI_1, ↓lS_0, ↓lS_s, ↓aI_int, ↓aI_str, ↓aI_row, ↓aI_b2, ↓aI_i1, ↓aI_i2, ↓aI_i3, ↓aI_i4, ↓aI_i5, ↓aI_i6, ↓oZ_abyz, ↓oZ_az, ↓cZ_lenLm, ↓cZ_lenTm, ↓cZ_lenP, ↓oZ_ixP, ↓sD_P, ↓cZ_lstP, ↓cZ_abs, ↓cZ_int, ↓cZ_intB, ↓cZ_tup, ↓cZ_lstL, ↓cZ_lstT, ↓cZ_all, ↓cZ_any, ↓cZ_max2, ↓cZ_min2, ↓cZ_sum, ↓cZ_sorted, ↓xE_int, ↓xE_bl, ↓xE_str, ↓xE_non, ↓xE_var, ↓xE_op, ↓xE_neg, ↓xE_nt, ↓xE_an, ↓xE_or, ↓xE_ch, ↓xE_isN, ↓xE_notN, ↓xE_ife, ↓xE_tup, ↓xE_lst, ↓xE_sl, ↓sl1_T, ↓sl1_L, ↓xE_cb, ↓xE_isa, ↓xE_call, ↓xE_callX, ↓xE_lget, ↓xE_srs, xE_revT, ↓xE_revL, ↓xE_sw, ↓s2D_s, ↓xB_sif, ↓xE_dget2, ↓xT_tl, ↓xI_ky, ↓xS_lk0, ↓xR_x, ↓xR_call, ↓xR_lst, ↓xR_e, ↓xB_ret, ↓xB_iff, ↓xS_tryK, ↓xS_never, ↓xS_mv0, ↓xS_aug, ↓eF_l, noF_nil, noF_dat, noF_no, noF_lst, noF_dK, ↓sK_j, ↓xE_callS, ↓xE_lc, ↓xE_lc2, ↓xE_callL, ↓rvA_d, ↓tw2_t, ↓sN_0, ↓sN_s, ↓xE_lrg, ↓xE_trg, ↓xE_pop, ↓xE_idxL, ↓sT_s, ↓xE_idxT, ↓xE_dget, ↓xE_din, ↓xE_dnin, ↓xE_dset, ↓xE_dspV, ↓xE_dspC, ↓xE_dspM, ↓tE_d, ↓xI_rng3, ↓xA_nil, ↓xA_cons, ↓xT_te, ↓xT_tb, ↓xT_nt, ↓xT_an, ↓xT_or, ↓xT_yes, ↓xT_lend, ↓xP_no, ↓xP_at, ↓xI_rng1, ↓xI_rng2, ↓xI_u, ↓xI_en, ↓xI_enl, ↓xG_nm, ↓xG_tup, ↓xGs_nil, ↓xGs_cons, ↓sV_d, ↓sV_n, ↓sV_w, ↓rV_d, ↓rV_n, ↓rV_w, ↓rV_o, ↓xS_set, ↓xS_asg, ↓xS_seti, ↓xS_app, ↓xS_newD, ↓xS_dput, ↓xS_drop, ↓xS_dropX, ↓xS_raise, ↓xS_tryC, ↓xS_ret, ↓xS_retN, ↓xS_iff, ↓xS_for, ↓xS_wh, ↓xS_brk, ↓xS_cont, ↓xS_nx, ↓xS_seq, ↓xS_fz, ↓fzK_l, ↓fzK_d, ↓fzK_n, ↓fzK_D, ↓kS_nx, ↓kS_rt, ↓kS_bk, ↓kS_ct, ↓out1_rt, ↓out2_rt, ↓xE_allIn, ↓xE_inC, ↓xE_isB, ↓strD_s, ↓u_b_room_behind_1, ↓I1, ↓ixS_fix, ↓I2]
  rw [x_room_behind]
  have un : mD L rows g = .tuple [.tuple (L.map .str), .tuple (rows.map tupI), tupI g] := rfl
  rw [un] at K
  simp (config := { implicitDefEqProofs := false }) (disch := walk_at "side") only [↓reduceIte, decide_eq_true_eq, decide_true, decide_false, Bool.not_true, Bool.not_false, Bool.false_eq_true, Int.reduceEq, Int.reduceLT, Int.reduceLE, Int.reduceNeg, Int.reduceToNat, ↓okI, ↓okI2, ↓aV_d, ↓aV_o, ↓aV_n, ↓aV_w, ↓dV_d, ↓dV_wD, ↓aV_wD, ↓dO_d, ↓kV_w, ↓xE_dinD, ↓xE_dninD, ↓xE_dgetD, ↓xE_fnv, ↓xE_callF, ↓xE_callE, ↓xE_isaT, ↓xE_dspb, ↓xI_ukd, ↓xS_retD, ↓xS_fzD, ↓fzKD_D, ↓fzKD_d, ↓dV_n, ↓dV_w, ↓gE_0, ↓gE_s, ↓eL_l, ↓eD_l, ↓eV_d, ↓eV_l, ↓nA_d, ↓nA_o, ↓iD_i, ↓bD_b, ↓kD_i, ↓kD_s, ↓zD_d, ↓vZ_d, ↓vZ_n, ↓sR_0, ↓sR_s, ↓sK_n, ↓sK_0, ↓lD_l, ↓sD_l, ↓sD_t, ↓tD_t, ↓dA_nil, ↓dA_d, ↓dN_nil, ↓dN_c, ↓oZ_addI, ↓oZ_addS, ↓oZ_addT, ↓oZ_addL, ↓oZ_sub, ↓oZ_mul, ↓oZ_mulT, ↓oZ_mulL, ↓oZ_fdiv, ↓oZ_mod, ↓oZ_pow, ↓oZ_eqI, ↓oZ_eqS, ↓oZ_neS, ↓oZ_neI, ↓oZ_lt, ↓oZ_le, ↓oZ_gt, ↓oZ_ge, ↓oZ_ixL, ↓oZ_ixT, ↓aI_0, ↓aI_1, ↓aI_2, ↓nI_0, ↓nI_1, ↓lS_0, ↓lS_s, ↓aI_int, ↓aI_str, ↓aI_row, ↓aI_b2, ↓aI_i1, ↓aI_i2, ↓aI_i3, ↓aI_i4, ↓aI_i5, ↓aI_i6, ↓oZ_abyz, ↓oZ_az, ↓cZ_lenLm, ↓cZ_lenTm, ↓cZ_lenP, ↓oZ_ixP, ↓sD_P, ↓cZ_lstP, ↓cZ_abs, ↓cZ_int, ↓cZ_intB, ↓cZ_tup, ↓cZ_lstL, ↓cZ_lstT, ↓cZ_all, ↓cZ_any, ↓cZ_max2, ↓cZ_min2, ↓cZ_sum, ↓cZ_sorted, ↓xE_int, ↓xE_bl, ↓xE_str, ↓xE_non, ↓xE_var, ↓xE_op, ↓xE_neg, ↓xE_nt, ↓xE_an, ↓xE_or, ↓xE_ch, ↓xE_isN, ↓xE_notN, ↓xE_ife, ↓xE_tup, ↓xE_lst, ↓xE_sl, ↓sl1_T, ↓sl1_L, ↓xE_cb, ↓xE_isa, ↓xE_call, ↓xE_callX, ↓xE_lget, ↓xE_srs, xE_revT, ↓xE_revL, ↓xE_sw, ↓s2D_s, ↓xB_sif, ↓xE_dget2, ↓xT_tl, ↓xI_ky, ↓xS_lk0, ↓xR_x, ↓xR_call, ↓xR_lst, ↓xR_e, ↓xB_ret, ↓xB_iff, ↓xS_tryK, ↓xS_never, ↓xS_mv0, ↓xS_aug, ↓eF_l, noF_nil, noF_dat, noF_no, noF_lst, noF_dK, ↓sK_j, ↓xE_callS, ↓xE_lc, ↓xE_lc2, ↓xE_callL, ↓rvA_d, ↓tw2_t, ↓sN_0, ↓sN_s, ↓xE_lrg, ↓xE_trg, ↓xE_pop, ↓xE_idxL, ↓sT_s, ↓xE_idxT, ↓xE_dget, ↓xE_din, ↓xE_dnin, ↓xE_dset, ↓xE_dspV, ↓xE_dspC, ↓xE_dspM, ↓tE_d, ↓xI_rng3, ↓xA_nil, ↓xA_cons, ↓xT_te, ↓xT_tb, ↓xT_nt, ↓xT_an, ↓xT_or, ↓xT_yes, ↓xT_lend, ↓xP_no, ↓xP_at, ↓xI_rng1, ↓xI_rng2, ↓xI_u, ↓xI_en, ↓xI_enl, ↓xG_nm, ↓xG_tup, ↓xGs_nil, ↓xGs_cons, ↓sV_d, ↓sV_n, ↓sV_w, ↓rV_d, ↓rV_n, ↓rV_w, ↓rV_o, ↓xS_set, ↓xS_asg, ↓xS_seti, ↓xS_app, ↓xS_newD, ↓xS_dput, ↓xS_drop, ↓xS_dropX, ↓xS_raise, ↓xS_tryC, ↓xS_ret, ↓xS_retN, ↓xS_iff, ↓xS_for, ↓xS_wh, ↓xS_brk, ↓xS_cont, ↓xS_nx, ↓xS_seq, ↓xS_fz, ↓fzK_l, ↓fzK_d, ↓fzK_n, ↓fzK_D, ↓kS_nx, ↓kS_rt, ↓kS_bk, ↓kS_ct, ↓out1_rt, ↓out2_rt, ↓xE_allIn, ↓xE_inC, ↓xE_isB, ↓strD_s, ↓u_c_room_behind, un, ↓fK_s K]
  rfl
theorem lets_eq (M : okMach L rows g) (hlog : ∀ x ∈ log, x ∈ L) : f_lets [mD L rows g, .tuple (log.map .str)] = some (.dat (.bool (decide (behindI L rows log ∈ g)))) := by
  have KR : ∀ {β : Type} (kv : Vl → Option β), cK f_room_behind [mD L rows g, .tuple (log.map .str)] kv = kv (.d (.int (behindI L rows log))) := fun kv => cK_s (room_behind_eq M hlog)
  have un : mD L rows g = .tuple [.tuple (L.map .str), .tuple (rows.map tupI), tupI g] := rfl
  have fl : (g.map PyData.int).all flatD = true := by rw [List.all_map]; exact List.all_eq_true.mpr fun _ _ => rfl
  have I2 : ∀ {β : Type} (kz : Rz → Option β), oZ .ix (mD L rows g) (.int 2) kz = kz (.d (tupI g)) := fun kz => rfl
  have IN : ∀ {β : Type} (v : Int) (kz : Rz → Option β), oZ .isIn (.int v) (tupI g) kz = kz (.d (.bool (decide (v ∈ g)))) := fun v kz => by
    unfold tupI
    rw [oZ_inT (d := .int v) rfl fl, inD_ints]
  rw [x_lets]
  simp (config := { implicitDefEqProofs := false }) (disch := walk_at "side") only [↓reduceIte, decide_eq_true_eq, decide_true, decide_false, Bool.not_true, Bool.not_false, Bool.false_eq_true, Int.reduceEq, Int.reduceLT, Int.reduceLE, Int.reduceNeg, Int.reduceToNat, ↓okI, ↓okI2, ↓aV_d, ↓aV_o, ↓aV_n, ↓aV_w, ↓dV_d, ↓dV_wD, ↓aV_wD, ↓dO_d, ↓kV_w, ↓xE_dinD, ↓xE_dninD, ↓xE_dgetD, ↓xE_fnv, ↓xE_callF, ↓xE_callE, ↓xE_isaT, ↓xE_dspb, ↓xI_ukd, ↓xS_retD, ↓xS_fzD, ↓fzKD_D, ↓fzKD_d, ↓dV_n, ↓dV_w, ↓gE_0, ↓gE_s, ↓eL_l, ↓eD_l, ↓eV_d, ↓eV_l, ↓nA_d, ↓nA_o, ↓iD_i, ↓bD_b, ↓kD_i, ↓kD_s, ↓zD_d, ↓vZ_d, ↓vZ_n, ↓sR_0, ↓sR_s, ↓sK_n, ↓sK_0, ↓lD_l, ↓sD_l, ↓sD_t, ↓tD_t, ↓dA_nil, ↓dA_d, ↓dN_nil, ↓dN_c, ↓oZ_addI, ↓oZ_addS, ↓oZ_addT, ↓oZ_addL, ↓oZ_sub, ↓oZ_mul, ↓oZ_mulT, ↓oZ_mulL, ↓oZ_fdiv, ↓oZ_mod, ↓oZ_pow, ↓oZ_eqI, ↓oZ_eqS, ↓oZ_neS, ↓oZ_neI, ↓oZ_lt, ↓oZ_le, ↓oZ_gt, ↓oZ_ge, ↓oZ_ixL, ↓oZ_ixT, ↓aI_0, ↓aI_1, ↓aI_2, ↓nI_0, ↓nI_1, ↓lS_0, ↓lS_s, ↓aI_int, ↓aI_str, ↓aI_row, ↓aI_b2, ↓aI_i1, ↓aI_i2, ↓aI_i3, ↓aI_i4, ↓aI_i5, ↓aI_i6, ↓oZ_abyz, ↓oZ_az, ↓cZ_lenLm, ↓cZ_lenTm, ↓cZ_lenP, ↓oZ_ixP, ↓sD_P, ↓cZ_lstP, ↓cZ_abs, ↓cZ_int, ↓cZ_intB, ↓cZ_tup, ↓cZ_lstL, ↓cZ_lstT, ↓cZ_all, ↓cZ_any, ↓cZ_max2, ↓cZ_min2, ↓cZ_sum, ↓cZ_sorted, ↓xE_int, ↓xE_bl, ↓xE_str, ↓xE_non, ↓xE_var, ↓xE_op, ↓xE_neg, ↓xE_nt, ↓xE_an, ↓xE_or, ↓xE_ch, ↓xE_isN, ↓xE_notN, ↓xE_ife, ↓xE_tup, ↓xE_lst, ↓xE_sl, ↓sl1_T, ↓sl1_L, ↓xE_cb, ↓xE_isa, ↓xE_call, ↓xE_callX, ↓xE_lget, ↓xE_srs, xE_revT, ↓xE_revL, ↓xE_sw, ↓s2D_s, ↓xB_sif, ↓xE_dget2, ↓xT_tl, ↓xI_ky, ↓xS_lk0, ↓xR_x, ↓xR_call, ↓xR_lst, ↓xR_e, ↓xB_ret, ↓xB_iff, ↓xS_tryK, ↓xS_never, ↓xS_mv0, ↓xS_aug, ↓eF_l, noF_nil, noF_dat, noF_no, noF_lst, noF_dK, ↓sK_j, ↓xE_callS, ↓xE_lc, ↓xE_lc2, ↓xE_callL, ↓rvA_d, ↓tw2_t, ↓sN_0, ↓sN_s, ↓xE_lrg, ↓xE_trg, ↓xE_pop, ↓xE_idxL, ↓sT_s, ↓xE_idxT, ↓xE_dget, ↓xE_din, ↓xE_dnin, ↓xE_dset, ↓xE_dspV, ↓xE_dspC, ↓xE_dspM, ↓tE_d, ↓xI_rng3, ↓xA_nil, ↓xA_cons, ↓xT_te, ↓xT_tb, ↓xT_nt, ↓xT_an, ↓xT_or, ↓xT_yes, ↓xT_lend, ↓xP_no, ↓xP_at, ↓xI_rng1, ↓xI_rng2, ↓xI_u, ↓xI_en, ↓xI_enl, ↓xG_nm, ↓xG_tup, ↓xGs_nil, ↓xGs_cons, ↓sV_d, ↓sV_n, ↓sV_w, ↓rV_d, ↓rV_n, ↓rV_w, ↓rV_o, ↓xS_set, ↓xS_asg, ↓xS_seti, ↓xS_app, ↓xS_newD, ↓xS_dput, ↓xS_drop, ↓xS_dropX, ↓xS_raise, ↓xS_tryC, ↓xS_ret, ↓xS_retN, ↓xS_iff, ↓xS_for, ↓xS_wh, ↓xS_brk, ↓xS_cont, ↓xS_nx, ↓xS_seq, ↓xS_fz, ↓fzK_l, ↓fzK_d, ↓fzK_n, ↓fzK_D, ↓kS_nx, ↓kS_rt, ↓kS_bk, ↓kS_ct, ↓out1_rt, ↓out2_rt, ↓xE_allIn, ↓xE_inC, ↓xE_isB, ↓strD_s, ↓u_c_lets, ↓KR, ↓I2, ↓IN]
end
/-- a log drawn -/
theorem log3_eq {N : List Int} {k : Int} {L : List Str} {n : Nat} (G : Good N) (hL : 1 ≤ L.length ∧ L.length ≤ 4) (h0 : 0 ≤ k) (h1 : k + 2000 ≤ KMax) (hn : n ≤ 1000) : ∃ log : List Str, (∀ x ∈ log, x ∈ L) ∧ log.length = n ∧ f_l_log_3 (stAt N k) [.tuple (L.map .str), .int (n : Nat)] = some (.dat (.tuple (log.map .str)), stAt N (k + (n : Nat))) := by
  have hK : KMax = 1000000000 := rfl
  have tn : ((n : Nat) : Int).toNat = n := Int.toNat_natCast _
  have zr : (rgD 0 ((n : Nat) : Int).toNat).length < sizeLine := by rw [rgD_len, sizeLine_eq]; omega
  have D1 := lc_inv0 (f := ltn [0] 3 .yes e_l_log_3_1) (fun j => [.own (.lst (stAt N (k + (j : Nat)))), .dat (.tuple (L.map .str)), .dat (.int (n : Nat)), .no]) (fun j => .str (L.getD (nxt N (k + (j : Nat)) (L.length : Nat)).toNat "")) (l := rgD 0 ((n : Nat) : Int).toNat) (ρ := [.own (.lst (stAt N k)), .dat (.tuple (L.map .str)), .dat (.int (n : Nat)), .no]) (ρ' := [.own (.lst (stAt N (k + (n : Nat)))), .dat (.tuple (L.map .str)), .dat (.int (n : Nat)), .no]) (by simp) (by rw [rgD_len, tn]) fun j hj => by
    rw [rgD_len, tn] at hj
    rw [rgD_at (by rw [tn]; exact hj), ltn_x, Int.zero_add]
    have a0 := nxt_lo (N := N) (k := k + (j : Nat)) (many := (L.length : Nat)) (by omega)
    have a1 := nxt_hi (N := N) (k := k + (j : Nat)) (many := (L.length : Nat)) (by omega)
    have lnL : ∀ {β : Type} (kz : Rz → Option β), cZ .len [.tuple (L.map .str)] kz = kz (.d (.int (L.length : Nat))) := fun kz => by rw [cZ_lenTm]
    have KN : ∀ {β : Type} (kv : Vl → List D → Option β), cKS f_l_next (stAt N (k + (j : Nat))) [.int (L.length : Nat)] kv = kv (.d (.int (nxt N (k + (j : Nat)) (L.length : Nat)))) (stAt N (k + ((j + 1 : Nat) : Int))) := fun kv => by
      rw [nextK G (by omega) (by omega) (by omega), show k + (j : Int) + 1 = k + ((j + 1 : Nat) : Int) by omega]
    simp (config := { implicitDefEqProofs := false }) (disch := walk_at "side") only [↓reduceIte, decide_eq_true_eq, decide_true, decide_false, Bool.not_true, Bool.not_false, Bool.false_eq_true, Int.reduceEq, Int.reduceLT, Int.reduceLE, Int.reduceNeg, Int.reduceToNat, ↓okI, ↓okI2, ↓aV_d, ↓aV_o, ↓aV_n, ↓aV_w, ↓dV_d, ↓dV_wD, ↓aV_wD, ↓dO_d, ↓kV_w, ↓xE_dinD, ↓xE_dninD, ↓xE_dgetD, ↓xE_fnv, ↓xE_callF, ↓xE_callE, ↓xE_isaT, ↓xE_dspb, ↓xI_ukd, ↓xS_retD, ↓xS_fzD, ↓fzKD_D, ↓fzKD_d, ↓dV_n, ↓dV_w, ↓gE_0, ↓gE_s, ↓eL_l, ↓eD_l, ↓eV_d, ↓eV_l, ↓nA_d, ↓nA_o, ↓iD_i, ↓bD_b, ↓kD_i, ↓kD_s, ↓zD_d, ↓vZ_d, ↓vZ_n, ↓sR_0, ↓sR_s, ↓sK_n, ↓sK_0, ↓lD_l, ↓sD_l, ↓sD_t, ↓tD_t, ↓dA_nil, ↓dA_d, ↓dN_nil, ↓dN_c, ↓oZ_addI, ↓oZ_addS, ↓oZ_addT, ↓oZ_addL, ↓oZ_sub, ↓oZ_mul, ↓oZ_mulT, ↓oZ_mulL, ↓oZ_fdiv, ↓oZ_mod, ↓oZ_pow, ↓oZ_eqI, ↓oZ_eqS, ↓oZ_neS, ↓oZ_neI, ↓oZ_lt, ↓oZ_le, ↓oZ_gt, ↓oZ_ge, ↓oZ_ixL, ↓oZ_ixT, ↓aI_0, ↓aI_1, ↓aI_2, ↓nI_0, ↓nI_1, ↓lS_0, ↓lS_s, ↓aI_int, ↓aI_str, ↓aI_row, ↓aI_b2, ↓aI_i1, ↓aI_i2, ↓aI_i3, ↓aI_i4, ↓aI_i5, ↓aI_i6, ↓oZ_abyz, ↓oZ_az, ↓cZ_lenLm, ↓cZ_lenTm, ↓cZ_lenP, ↓oZ_ixP, ↓sD_P, ↓cZ_lstP, ↓cZ_abs, ↓cZ_int, ↓cZ_intB, ↓cZ_tup, ↓cZ_lstL, ↓cZ_lstT, ↓cZ_all, ↓cZ_any, ↓cZ_max2, ↓cZ_min2, ↓cZ_sum, ↓cZ_sorted, ↓xE_int, ↓xE_bl, ↓xE_str, ↓xE_non, ↓xE_var, ↓xE_op, ↓xE_neg, ↓xE_nt, ↓xE_an, ↓xE_or, ↓xE_ch, ↓xE_isN, ↓xE_notN, ↓xE_ife, ↓xE_tup, ↓xE_lst, ↓xE_sl, ↓sl1_T, ↓sl1_L, ↓xE_cb, ↓xE_isa, ↓xE_call, ↓xE_callX, ↓xE_lget, ↓xE_srs, xE_revT, ↓xE_revL, ↓xE_sw, ↓s2D_s, ↓xB_sif, ↓xE_dget2, ↓xT_tl, ↓xI_ky, ↓xS_lk0, ↓xR_x, ↓xR_call, ↓xR_lst, ↓xR_e, ↓xB_ret, ↓xB_iff, ↓xS_tryK, ↓xS_never, ↓xS_mv0, ↓xS_aug, ↓eF_l, noF_nil, noF_dat, noF_no, noF_lst, noF_dK, ↓sK_j, ↓xE_callS, ↓xE_lc, ↓xE_lc2, ↓xE_callL, ↓rvA_d, ↓tw2_t, ↓sN_0, ↓sN_s, ↓xE_lrg, ↓xE_trg, ↓xE_pop, ↓xE_idxL, ↓sT_s, ↓xE_idxT, ↓xE_dget, ↓xE_din, ↓xE_dnin, ↓xE_dset, ↓xE_dspV, ↓xE_dspC, ↓xE_dspM, ↓tE_d, ↓xI_rng3, ↓xA_nil, ↓xA_cons, ↓xT_te, ↓xT_tb, ↓xT_nt, ↓xT_an, ↓xT_or, ↓xT_yes, ↓xT_lend, ↓xP_no, ↓xP_at, ↓xI_rng1, ↓xI_rng2, ↓xI_u, ↓xI_en, ↓xI_enl, ↓xG_nm, ↓xG_tup, ↓xGs_nil, ↓xGs_cons, ↓sV_d, ↓sV_n, ↓sV_w, ↓rV_d, ↓rV_n, ↓rV_w, ↓rV_o, ↓xS_set, ↓xS_asg, ↓xS_seti, ↓xS_app, ↓xS_newD, ↓xS_dput, ↓xS_drop, ↓xS_dropX, ↓xS_raise, ↓xS_tryC, ↓xS_ret, ↓xS_retN, ↓xS_iff, ↓xS_for, ↓xS_wh, ↓xS_brk, ↓xS_cont, ↓xS_nx, ↓xS_seq, ↓xS_fz, ↓fzK_l, ↓fzK_d, ↓fzK_n, ↓fzK_D, ↓kS_nx, ↓kS_rt, ↓kS_bk, ↓kS_ct, ↓out1_rt, ↓out2_rt, ↓xE_allIn, ↓xE_inC, ↓xE_isB, ↓strD_s, ↓u_e_l_log_3_1, ↓lnL, ↓KN]
  refine ⟨(List.range n).map fun j => L.getD (nxt N (k + (j : Nat)) (L.length : Nat)).toNat "", fun x m => ?_, by rw [List.length_map, List.length_range], ?_⟩
  · obtain ⟨j, _, rfl⟩ := List.mem_map.mp m
    have a0 := nxt_lo (N := N) (k := k + (j : Nat)) (many := (L.length : Nat)) (by omega)
    have a1 := nxt_hi (N := N) (k := k + (j : Nat)) (many := (L.length : Nat)) (by omega)
    rw [List.getD_eq_getElem?_getD, List.getElem?_eq_getElem (by omega : (nxt N (k + (j : Nat)) (L.length : Nat)).toNat < L.length)]
    exact List.getElem_mem _
  · rw [x_l_log_3]
    simp (config := { implicitDefEqProofs := false }) (disch := walk_at "side") only [↓reduceIte, decide_eq_true_eq, decide_true, decide_false, Bool.not_true, Bool.not_false, Bool.false_eq_true, Int.reduceEq, Int.reduceLT, Int.reduceLE, Int.reduceNeg, Int.reduceToNat, ↓okI, ↓okI2, ↓aV_d, ↓aV_o, ↓aV_n, ↓aV_w, ↓dV_d, ↓dV_wD, ↓aV_wD, ↓dO_d, ↓kV_w, ↓xE_dinD, ↓xE_dninD, ↓xE_dgetD, ↓xE_fnv, ↓xE_callF, ↓xE_callE, ↓xE_isaT, ↓xE_dspb, ↓xI_ukd, ↓xS_retD, ↓xS_fzD, ↓fzKD_D, ↓fzKD_d, ↓dV_n, ↓dV_w, ↓gE_0, ↓gE_s, ↓eL_l, ↓eD_l, ↓eV_d, ↓eV_l, ↓nA_d, ↓nA_o, ↓iD_i, ↓bD_b, ↓kD_i, ↓kD_s, ↓zD_d, ↓vZ_d, ↓vZ_n, ↓sR_0, ↓sR_s, ↓sK_n, ↓sK_0, ↓lD_l, ↓sD_l, ↓sD_t, ↓tD_t, ↓dA_nil, ↓dA_d, ↓dN_nil, ↓dN_c, ↓oZ_addI, ↓oZ_addS, ↓oZ_addT, ↓oZ_addL, ↓oZ_sub, ↓oZ_mul, ↓oZ_mulT, ↓oZ_mulL, ↓oZ_fdiv, ↓oZ_mod, ↓oZ_pow, ↓oZ_eqI, ↓oZ_eqS, ↓oZ_neS, ↓oZ_neI, ↓oZ_lt, ↓oZ_le, ↓oZ_gt, ↓oZ_ge, ↓oZ_ixL, ↓oZ_ixT, ↓aI_0, ↓aI_1, ↓aI_2, ↓nI_0, ↓nI_1, ↓lS_0, ↓lS_s, ↓aI_int, ↓aI_str, ↓aI_row, ↓aI_b2, ↓aI_i1, ↓aI_i2, ↓aI_i3, ↓aI_i4, ↓aI_i5, ↓aI_i6, ↓oZ_abyz, ↓oZ_az, ↓cZ_lenLm, ↓cZ_lenTm, ↓cZ_lenP, ↓oZ_ixP, ↓sD_P, ↓cZ_lstP, ↓cZ_abs, ↓cZ_int, ↓cZ_intB, ↓cZ_tup, ↓cZ_lstL, ↓cZ_lstT, ↓cZ_all, ↓cZ_any, ↓cZ_max2, ↓cZ_min2, ↓cZ_sum, ↓cZ_sorted, ↓xE_int, ↓xE_bl, ↓xE_str, ↓xE_non, ↓xE_var, ↓xE_op, ↓xE_neg, ↓xE_nt, ↓xE_an, ↓xE_or, ↓xE_ch, ↓xE_isN, ↓xE_notN, ↓xE_ife, ↓xE_tup, ↓xE_lst, ↓xE_sl, ↓sl1_T, ↓sl1_L, ↓xE_cb, ↓xE_isa, ↓xE_call, ↓xE_callX, ↓xE_lget, ↓xE_srs, xE_revT, ↓xE_revL, ↓xE_sw, ↓s2D_s, ↓xB_sif, ↓xE_dget2, ↓xT_tl, ↓xI_ky, ↓xS_lk0, ↓xR_x, ↓xR_call, ↓xR_lst, ↓xR_e, ↓xB_ret, ↓xB_iff, ↓xS_tryK, ↓xS_never, ↓xS_mv0, ↓xS_aug, ↓eF_l, noF_nil, noF_dat, noF_no, noF_lst, noF_dK, ↓sK_j, ↓xE_callS, ↓xE_lc, ↓xE_lc2, ↓xE_callL, ↓rvA_d, ↓tw2_t, ↓sN_0, ↓sN_s, ↓xE_lrg, ↓xE_trg, ↓xE_pop, ↓xE_idxL, ↓sT_s, ↓xE_idxT, ↓xE_dget, ↓xE_din, ↓xE_dnin, ↓xE_dset, ↓xE_dspV, ↓xE_dspC, ↓xE_dspM, ↓tE_d, ↓xI_rng3, ↓xA_nil, ↓xA_cons, ↓xT_te, ↓xT_tb, ↓xT_nt, ↓xT_an, ↓xT_or, ↓xT_yes, ↓xT_lend, ↓xP_no, ↓xP_at, ↓xI_rng1, ↓xI_rng2, ↓xI_u, ↓xI_en, ↓xI_enl, ↓xG_nm, ↓xG_tup, ↓xGs_nil, ↓xGs_cons, ↓sV_d, ↓sV_n, ↓sV_w, ↓rV_d, ↓rV_n, ↓rV_w, ↓rV_o, ↓xS_set, ↓xS_asg, ↓xS_seti, ↓xS_app, ↓xS_newD, ↓xS_dput, ↓xS_drop, ↓xS_dropX, ↓xS_raise, ↓xS_tryC, ↓xS_ret, ↓xS_retN, ↓xS_iff, ↓xS_for, ↓xS_wh, ↓xS_brk, ↓xS_cont, ↓xS_nx, ↓xS_seq, ↓xS_fz, ↓fzK_l, ↓fzK_d, ↓fzK_n, ↓fzK_D, ↓kS_nx, ↓kS_rt, ↓kS_bk, ↓kS_ct, ↓out1_rt, ↓out2_rt, ↓xE_allIn, ↓xE_inC, ↓xE_isB, ↓strD_s, ↓u_c_l_log_3, ↓lK_s D1]
    rw [rgD_len, tn, List.map_map]
    rfl
theorem small_rp : ∀ n : Fin 8, (PyData.list [.int ((n.val : Nat) : Int)]).showable = true ∧ (PyData.list [.int ((n.val : Nat) : Int)]).hasDict = false ∧ (PyData.list [.int ((n.val : Nat) : Int)]).depth ≤ 64 ∧ (PyData.list [.int ((n.val : Nat) : Int)]).shown.length ≤ 100 := by decide +kernel
theorem l_same_eq {i : Int} (h : 0 ≤ i ∧ i < 8) : f_l_same [.int i, .int i] = some (.dat (.bool true)) := by
  obtain ⟨h1, h2, h3, h4⟩ := small_rp ⟨i.toNat, by omega⟩
  have e : (((⟨i.toNat, by omega⟩ : Fin 8).val : Nat) : Int) = i := by show ((i.toNat : Nat) : Int) = i; omega
  rw [e] at h1 h2 h3 h4
  have KR : ∀ {β : Type} (kz : Rz → Option β), cZ .repr [.list [.int i]] kz = kz (.d (.str (PyData.list [.int i]).shown)) := fun kz => cZ_reprL h1 h2 h3 (by rw [sizeLine_eq]; omega)
  rw [x_l_same]
  simp (config := { implicitDefEqProofs := false }) (disch := walk_at "side") only [↓reduceIte, decide_eq_true_eq, decide_true, decide_false, Bool.not_true, Bool.not_false, Bool.false_eq_true, Int.reduceEq, Int.reduceLT, Int.reduceLE, Int.reduceNeg, Int.reduceToNat, ↓okI, ↓okI2, ↓aV_d, ↓aV_o, ↓aV_n, ↓aV_w, ↓dV_d, ↓dV_wD, ↓aV_wD, ↓dO_d, ↓kV_w, ↓xE_dinD, ↓xE_dninD, ↓xE_dgetD, ↓xE_fnv, ↓xE_callF, ↓xE_callE, ↓xE_isaT, ↓xE_dspb, ↓xI_ukd, ↓xS_retD, ↓xS_fzD, ↓fzKD_D, ↓fzKD_d, ↓dV_n, ↓dV_w, ↓gE_0, ↓gE_s, ↓eL_l, ↓eD_l, ↓eV_d, ↓eV_l, ↓nA_d, ↓nA_o, ↓iD_i, ↓bD_b, ↓kD_i, ↓kD_s, ↓zD_d, ↓vZ_d, ↓vZ_n, ↓sR_0, ↓sR_s, ↓sK_n, ↓sK_0, ↓lD_l, ↓sD_l, ↓sD_t, ↓tD_t, ↓dA_nil, ↓dA_d, ↓dN_nil, ↓dN_c, ↓oZ_addI, ↓oZ_addS, ↓oZ_addT, ↓oZ_addL, ↓oZ_sub, ↓oZ_mul, ↓oZ_mulT, ↓oZ_mulL, ↓oZ_fdiv, ↓oZ_mod, ↓oZ_pow, ↓oZ_eqI, ↓oZ_eqS, ↓oZ_neS, ↓oZ_neI, ↓oZ_lt, ↓oZ_le, ↓oZ_gt, ↓oZ_ge, ↓oZ_ixL, ↓oZ_ixT, ↓aI_0, ↓aI_1, ↓aI_2, ↓nI_0, ↓nI_1, ↓lS_0, ↓lS_s, ↓aI_int, ↓aI_str, ↓aI_row, ↓aI_b2, ↓aI_i1, ↓aI_i2, ↓aI_i3, ↓aI_i4, ↓aI_i5, ↓aI_i6, ↓oZ_abyz, ↓oZ_az, ↓cZ_lenLm, ↓cZ_lenTm, ↓cZ_lenP, ↓oZ_ixP, ↓sD_P, ↓cZ_lstP, ↓cZ_abs, ↓cZ_int, ↓cZ_intB, ↓cZ_tup, ↓cZ_lstL, ↓cZ_lstT, ↓cZ_all, ↓cZ_any, ↓cZ_max2, ↓cZ_min2, ↓cZ_sum, ↓cZ_sorted, ↓xE_int, ↓xE_bl, ↓xE_str, ↓xE_non, ↓xE_var, ↓xE_op, ↓xE_neg, ↓xE_nt, ↓xE_an, ↓xE_or, ↓xE_ch, ↓xE_isN, ↓xE_notN, ↓xE_ife, ↓xE_tup, ↓xE_lst, ↓xE_sl, ↓sl1_T, ↓sl1_L, ↓xE_cb, ↓xE_isa, ↓xE_call, ↓xE_callX, ↓xE_lget, ↓xE_srs, xE_revT, ↓xE_revL, ↓xE_sw, ↓s2D_s, ↓xB_sif, ↓xE_dget2, ↓xT_tl, ↓xI_ky, ↓xS_lk0, ↓xR_x, ↓xR_call, ↓xR_lst, ↓xR_e, ↓xB_ret, ↓xB_iff, ↓xS_tryK, ↓xS_never, ↓xS_mv0, ↓xS_aug, ↓eF_l, noF_nil, noF_dat, noF_no, noF_lst, noF_dK, ↓sK_j, ↓xE_callS, ↓xE_lc, ↓xE_lc2, ↓xE_callL, ↓rvA_d, ↓tw2_t, ↓sN_0, ↓sN_s, ↓xE_lrg, ↓xE_trg, ↓xE_pop, ↓xE_idxL, ↓sT_s, ↓xE_idxT, ↓xE_dget, ↓xE_din, ↓xE_dnin, ↓xE_dset, ↓xE_dspV, ↓xE_dspC, ↓xE_dspM, ↓tE_d, ↓xI_rng3, ↓xA_nil, ↓xA_cons, ↓xT_te, ↓xT_tb, ↓xT_nt, ↓xT_an, ↓xT_or, ↓xT_yes, ↓xT_lend, ↓xP_no, ↓xP_at, ↓xI_rng1, ↓xI_rng2, ↓xI_u, ↓xI_en, ↓xI_enl, ↓xG_nm, ↓xG_tup, ↓xGs_nil, ↓xGs_cons, ↓sV_d, ↓sV_n, ↓sV_w, ↓rV_d, ↓rV_n, ↓rV_w, ↓rV_o, ↓xS_set, ↓xS_asg, ↓xS_seti, ↓xS_app, ↓xS_newD, ↓xS_dput, ↓xS_drop, ↓xS_dropX, ↓xS_raise, ↓xS_tryC, ↓xS_ret, ↓xS_retN, ↓xS_iff, ↓xS_for, ↓xS_wh, ↓xS_brk, ↓xS_cont, ↓xS_nx, ↓xS_seq, ↓xS_fz, ↓fzK_l, ↓fzK_d, ↓fzK_n, ↓fzK_D, ↓kS_nx, ↓kS_rt, ↓kS_bk, ↓kS_ct, ↓out1_rt, ↓out2_rt, ↓xE_allIn, ↓xE_inC, ↓xE_isB, ↓strD_s, ↓u_c_l_same, ↓KR]
  rw [beq_self_eq_true]
end CS
namespace CS
open PySem PySem.Spec PyProof.Rows L2 DL EV
local macro_rules | `(tactic| walk_at "side") => `(tactic| first | omega | (simp only [List.length_cons, List.length_nil, List.length_map, List.length_append, List.length_range, PySem.sizeLine_eq]; omega) | assumption | (simp; done))
abbrev Mt : Type := List Str × List (List Int) × List Int
def mT (v : Mt) : D := mD v.1 v.2.1 v.2.2
def rSP7 : EV.St :=
  .seq (.iff (.or (.an (.te (.op .eq (.op .ix (.var 8) (.int 2)) (.tup (.cons (.int 1) (.cons (.int 0) (.nil)))))) (.te (.op .lt (.cb .len (.cons (.var 10) (.nil))) (.int 2)))) (.an (.te (.op .eq (.op .ix (.var 8) (.int 2)) (.tup (.cons (.int 0) (.nil))))) (.te (.op .eq (.op .ix (.var 8) (.int 2)) (.op .add (.revT (.var 11)) (.tup (.cons (.int 0) (.nil)))))))) (.ret (.tup (.cons (.var 9) (.cons (.tup (.nil)) (.cons (.tup (.nil)) (.nil)))))) (.nx)) (.ret (.var 8))
theorem u_rSP7 {β : Type} (ps : List Nat) (ρ : Rho) (kn : Rho → Option β) (ka : Out → Option β) : xS ps (rSP7) ρ kn ka = xS ps (.seq (.iff (.or (.an (.te (.op .eq (.op .ix (.var 8) (.int 2)) (.tup (.cons (.int 1) (.cons (.int 0) (.nil)))))) (.te (.op .lt (.cb .len (.cons (.var 10) (.nil))) (.int 2)))) (.an (.te (.op .eq (.op .ix (.var 8) (.int 2)) (.tup (.cons (.int 0) (.nil))))) (.te (.op .eq (.op .ix (.var 8) (.int 2)) (.op .add (.revT (.var 11)) (.tup (.cons (.int 0) (.nil)))))))) (.ret (.tup (.cons (.var 9) (.cons (.tup (.nil)) (.cons (.tup (.nil)) (.nil)))))) (.nx)) (.ret (.var 8))) ρ kn ka := rfl
def rSP6 : EV.St :=
  .seq (.set 8 (.op .ix (.var 6) (.callS f_l_next 0 (.cons (.cb .len (.cons (.var 6) (.nil))) (.nil))))) (rSP7)
theorem u_rSP6 {β : Type} (ps : List Nat) (ρ : Rho) (kn : Rho → Option β) (ka : Out → Option β) : xS ps (rSP6) ρ kn ka = xS ps (.seq (.set 8 (.op .ix (.var 6) (.callS f_l_next 0 (.cons (.cb .len (.cons (.var 6) (.nil))) (.nil))))) (rSP7)) ρ kn ka := rfl
def rSP5 : EV.St :=
  .seq (.set 6 (.op .add (.var 6) (.lst (.cons (.tup (.cons (.tup (.nil)) (.cons (.var 10) (.cons (.var 11) (.nil))))) (.cons (.tup (.cons (.op .add (.op .add (.sl (.var 9) (.no) (.at (.var 3))) (.tup (.cons (.str "none") (.nil)))) (.sl (.var 9) (.at (.op .add (.var 3) (.int 1))) (.no))) (.cons (.var 10) (.cons (.var 11) (.nil))))) (.cons (.tup (.cons (.op .add (.var 9) (.sl (.var 9) (.no) (.at (.int 1)))) (.cons (.var 10) (.cons (.var 11) (.nil))))) (.nil))))))) (rSP6)
theorem u_rSP5 {β : Type} (ps : List Nat) (ρ : Rho) (kn : Rho → Option β) (ka : Out → Option β) : xS ps (rSP5) ρ kn ka = xS ps (.seq (.set 6 (.op .add (.var 6) (.lst (.cons (.tup (.cons (.tup (.nil)) (.cons (.var 10) (.cons (.var 11) (.nil))))) (.cons (.tup (.cons (.op .add (.op .add (.sl (.var 9) (.no) (.at (.var 3))) (.tup (.cons (.str "none") (.nil)))) (.sl (.var 9) (.at (.op .add (.var 3) (.int 1))) (.no))) (.cons (.var 10) (.cons (.var 11) (.nil))))) (.cons (.tup (.cons (.op .add (.var 9) (.sl (.var 9) (.no) (.at (.int 1)))) (.cons (.var 10) (.cons (.var 11) (.nil))))) (.nil))))))) (rSP6)) ρ kn ka := rfl
def rSP4 : EV.St :=
  .seq (.for (.u (.lst (.cons (.tup (.cons (.cb .len (.cons (.var 10) (.nil))) (.nil))) (.cons (.tup (.cons (.neg (.int 1)) (.nil))) (.cons (.tup (.cons (.int 0) (.cons (.int 0) (.nil)))) (.cons (.op .add (.var 11) (.tup (.cons (.cb .len (.cons (.var 10) (.nil))) (.nil)))) (.cons (.tup (.cons (.var 2) (.cons (.var 2) (.nil)))) (.cons (.tup (.cons (.int 1) (.cons (.int 0) (.nil)))) (.cons (.op .add (.revT (.var 11)) (.tup (.cons (.int 0) (.nil)))) (.nil)))))))))) (.nm 7) b_l_spoilt_1) (rSP5)
theorem u_rSP4 {β : Type} (ps : List Nat) (ρ : Rho) (kn : Rho → Option β) (ka : Out → Option β) : xS ps (rSP4) ρ kn ka = xS ps (.seq (.for (.u (.lst (.cons (.tup (.cons (.cb .len (.cons (.var 10) (.nil))) (.nil))) (.cons (.tup (.cons (.neg (.int 1)) (.nil))) (.cons (.tup (.cons (.int 0) (.cons (.int 0) (.nil)))) (.cons (.op .add (.var 11) (.tup (.cons (.cb .len (.cons (.var 10) (.nil))) (.nil)))) (.cons (.tup (.cons (.var 2) (.cons (.var 2) (.nil)))) (.cons (.tup (.cons (.int 1) (.cons (.int 0) (.nil)))) (.cons (.op .add (.revT (.var 11)) (.tup (.cons (.int 0) (.nil)))) (.nil)))))))))) (.nm 7) b_l_spoilt_1) (rSP5)) ρ kn ka := rfl
def rSP3 : EV.St :=
  .seq (.fz 5 (.set 6 (.op .add (.var 6) (.lc (.u (.var 5)) 12 .yes e_l_spoilt_3)))) (rSP4)
theorem u_rSP3 {β : Type} (ps : List Nat) (ρ : Rho) (kn : Rho → Option β) (ka : Out → Option β) : xS ps (rSP3) ρ kn ka = xS ps (.seq (.fz 5 (.set 6 (.op .add (.var 6) (.lc (.u (.var 5)) 12 .yes e_l_spoilt_3)))) (rSP4)) ρ kn ka := rfl
def rSP2 : EV.St :=
  .seq (.set 6 (.lst (.cons (.tup (.cons (.var 9) (.cons (.tup (.nil)) (.cons (.tup (.nil)) (.nil))))) (.cons (.tup (.cons (.var 9) (.cons (.op .add (.var 10) (.op .mul (.sl (.var 10) (.no) (.at (.int 1))) (.op .sub (.int 9) (.cb .len (.cons (.var 10) (.nil)))))) (.cons (.var 11) (.nil))))) (.nil))))) (rSP3)
theorem u_rSP2 {β : Type} (ps : List Nat) (ρ : Rho) (kn : Rho → Option β) (ka : Out → Option β) : xS ps (rSP2) ρ kn ka = xS ps (.seq (.set 6 (.lst (.cons (.tup (.cons (.var 9) (.cons (.tup (.nil)) (.cons (.tup (.nil)) (.nil))))) (.cons (.tup (.cons (.var 9) (.cons (.op .add (.var 10) (.op .mul (.sl (.var 10) (.no) (.at (.int 1))) (.op .sub (.int 9) (.cb .len (.cons (.var 10) (.nil)))))) (.cons (.var 11) (.nil))))) (.nil))))) (rSP3)) ρ kn ka := rfl
def rSP1 : EV.St :=
  .seq (.set 5 (.lst (.cons (.op .add (.op .add (.sl (.var 4) (.no) (.at (.var 3))) (.tup (.cons (.cb .len (.cons (.var 10) (.nil))) (.nil)))) (.sl (.var 4) (.at (.op .add (.var 3) (.int 1))) (.no))) (.cons (.op .add (.op .add (.sl (.var 4) (.no) (.at (.var 3))) (.tup (.cons (.neg (.int 1)) (.nil)))) (.sl (.var 4) (.at (.op .add (.var 3) (.int 1))) (.no))) (.cons (.op .add (.var 4) (.tup (.cons (.int 0) (.nil)))) (.cons (.op .add (.sl (.var 4) (.no) (.at (.var 3))) (.sl (.var 4) (.at (.op .add (.var 3) (.int 1))) (.no))) (.nil))))))) (rSP2)
theorem u_rSP1 {β : Type} (ps : List Nat) (ρ : Rho) (kn : Rho → Option β) (ka : Out → Option β) : xS ps (rSP1) ρ kn ka = xS ps (.seq (.set 5 (.lst (.cons (.op .add (.op .add (.sl (.var 4) (.no) (.at (.var 3))) (.tup (.cons (.cb .len (.cons (.var 10) (.nil))) (.nil)))) (.sl (.var 4) (.at (.op .add (.var 3) (.int 1))) (.no))) (.cons (.op .add (.op .add (.sl (.var 4) (.no) (.at (.var 3))) (.tup (.cons (.neg (.int 1)) (.nil)))) (.sl (.var 4) (.at (.op .add (.var 3) (.int 1))) (.no))) (.cons (.op .add (.var 4) (.tup (.cons (.int 0) (.nil)))) (.cons (.op .add (.sl (.var 4) (.no) (.at (.var 3))) (.sl (.var 4) (.at (.op .add (.var 3) (.int 1))) (.no))) (.nil))))))) (rSP2)) ρ kn ka := rfl
theorem u_rSP0 {β : Type} (ps : List Nat) (ρ : Rho) (kn : Rho → Option β) (ka : Out → Option β) : xS ps (c_l_spoilt) ρ kn ka = xS ps (.seq (.asg (.var 1) (.tup 3 (.cons (.nm 9) (.cons (.nm 10) (.cons (.nm 11) (.nil)))))) (.seq (.set 2 (.callS f_l_next 0 (.cons (.cb .len (.cons (.var 10) (.nil))) (.nil)))) (.seq (.set 3 (.callS f_l_next 0 (.cons (.cb .len (.cons (.var 9) (.nil))) (.nil)))) (.seq (.set 4 (.op .ix (.var 10) (.var 2))) (rSP1))))) ρ kn ka := rfl
theorem slP {β : Type} {c : List Int} {lo hi : Option Int} {kz : Rz → Option β} : (sl1 (tupI c) lo hi).bind kz = kz (.d (.tuple (DL.cutD (c.map PyData.int) lo hi))) := rfl
theorem cut_dropY (ds : List D) (a : Nat) : DL.cutD ds (some ((a : Int) + 1)) none = ds.drop (a + 1) := by
  show DL.cutD ds (some ((a + 1 : Nat) : Int)) none = _
  generalize a + 1 = a
  unfold DL.cutD
  rw [HT.sIx_none, HT.sIx_nat]
  by_cases z : a ≤ ds.length
  · rw [Nat.min_eq_left z, List.take_of_length_le (by rw [List.length_drop]; omega)]
  · rw [Nat.min_eq_right (by omega), List.drop_eq_nil_of_le (by omega), List.drop_eq_nil_of_le (by omega), List.take_nil]
theorem addP {β : Type} {i j : List Int} {kz : Rz → Option β} (h : i.length + j.length ≤ 1000) : oZ .add (tupI i) (tupI j) kz = kz (.d (tupI (i ++ j))) := by
  unfold tupI
  rw [oZ_addT (by rw [List.length_map, List.length_map, sizeLine_eq]; omega), List.map_append]
theorem addP1 {β : Type} {i : List Int} {x : Int} {kz : Rz → Option β} (h : i.length ≤ 900) : oZ .add (tupI i) (.tuple [.int x]) kz = kz (.d (tupI (i ++ [x]))) := addP (j := [x]) (by rw [List.length_singleton]; omega)
theorem eqP {β : Type} {a b : List Int} {kz : Rz → Option β} : oZ .eq (tupI a) (tupI b) kz = kz (.d (.bool (decide (a = b)))) := by
  rw [oZ_eq (shT a) (shT b)]
  have : PyData.eqv (tupI a) (tupI b) = decide (a = b) := eqvAllInts a b
  rw [this]
/-- the parts of a machine that is spoilt -/
structure Sp4 (L : List Str) (rows : List (List Int)) (g : List Int) (a j : Nat) (row r1 r2 : List Int) (m1 m2 W f1 : List (List Int)) (L1 L2 F1 : List Str) : Prop where
  ha : a < rows.length ∧ rows.length ≤ 8
  hj : j < L.length ∧ L.length ≤ 4
  hg : g.length ≤ 8
  er : row = rows.getD a []
  lr : row.length ≤ 4
  s1 : r1 = row.take j
  s2 : r2 = row.drop (j + 1)
  t1 : m1 = rows.take a
  t2 : m2 = rows.drop (a + 1)
  ef : f1 = rows.take 1
  eW : W = List.replicate (9 - rows.length) (rows.getD 0 [])
  u1 : L1 = L.take j
  u2 : L2 = L.drop (j + 1)
  eF : F1 = L.take 1
section
variable {N : List Int} {k : Int} {L : List Str} {rows : List (List Int)} {g row r1 r2 : List Int} {a j : Nat} {m1 m2 W f1 : List (List Int)} {L1 L2 F1 : List Str}
abbrev spR (N : List Int) (k : Int) (L : List Str) (rows : List (List Int)) (g : List Int) (a j : Nat) (row : List Int) (e5 e6 e7 e8 : Ent) : Rho :=
  [.own (.lst (stAt N k)), .dat (mD L rows g), .dat (.int (a : Nat)), .dat (.int (j : Nat)), .dat (tupI row), e5, e6, e7, e8, .dat (.tuple (L.map .str)), .dat (.tuple (rows.map tupI)), .dat (tupI g), .no]
theorem part1 {β : Type} {kn : Rho → Option β} {ka : Out → Option β} (S : Sp4 L rows g a j row r1 r2 m1 m2 W f1 L1 L2 F1) : xS [0] rSP1 (spR N k L rows g a j row .no .no .no .no) kn ka = xS [0] rSP2 (spR N k L rows g a j row (.own (.lst ([r1 ++ [(rows.length : Int)] ++ r2, r1 ++ [-1] ++ r2, row ++ [0], r1 ++ r2].map tupI))) .no .no .no) kn ka := by
  have c1 : PyData.tuple (DL.cutD (row.map PyData.int) none (some (j : Int))) = tupI r1 := by rw [cut_takeY, ← List.map_take, ← S.s1]; rfl
  have c2 : PyData.tuple (DL.cutD (row.map PyData.int) (some ((j : Int) + 1)) none) = tupI r2 := by rw [cut_dropY, ← List.map_drop, ← S.s2]; rfl
  have l1 : r1.length ≤ 4 := by rw [S.s1, List.length_take]; have := S.lr; omega
  have l2 : r2.length ≤ 4 := by rw [S.s2, List.length_drop]; have := S.lr; omega
  have l3 := S.lr
  have lnR : ∀ {β : Type} (kz : Rz → Option β), cZ .len [.tuple (rows.map tupI)] kz = kz (.d (.int (rows.length : Nat))) := fun kz => by rw [cZ_lenTm]
  simp (config := { implicitDefEqProofs := false }) (disch := walk_at "side") only [↓reduceIte, decide_eq_true_eq, decide_true, decide_false, Bool.not_true, Bool.not_false, Bool.false_eq_true, Int.reduceEq, Int.reduceLT, Int.reduceLE, Int.reduceNeg, Int.reduceToNat, ↓okI, ↓okI2, ↓aV_d, ↓aV_o, ↓aV_n, ↓aV_w, ↓dV_d, ↓dV_wD, ↓aV_wD, ↓dO_d, ↓kV_w, ↓xE_dinD, ↓xE_dninD, ↓xE_dgetD, ↓xE_fnv, ↓xE_callF, ↓xE_callE, ↓xE_isaT, ↓xE_dspb, ↓xI_ukd, ↓xS_retD, ↓xS_fzD, ↓fzKD_D, ↓fzKD_d, ↓dV_n, ↓dV_w, ↓gE_0, ↓gE_s, ↓eL_l, ↓eD_l, ↓eV_d, ↓eV_l, ↓nA_d, ↓nA_o, ↓iD_i, ↓bD_b, ↓kD_i, ↓kD_s, ↓zD_d, ↓vZ_d, ↓vZ_n, ↓sR_0, ↓sR_s, ↓sK_n, ↓sK_0, ↓lD_l, ↓sD_l, ↓sD_t, ↓tD_t, ↓dA_nil, ↓dA_d, ↓dN_nil, ↓dN_c, ↓oZ_addI, ↓oZ_addS, ↓oZ_addT, ↓oZ_addL, ↓oZ_sub, ↓oZ_mul, ↓oZ_mulT, ↓oZ_mulL, ↓oZ_fdiv, ↓oZ_mod, ↓oZ_pow, ↓oZ_eqI, ↓oZ_eqS, ↓oZ_neS, ↓oZ_neI, ↓oZ_lt, ↓oZ_le, ↓oZ_gt, ↓oZ_ge, ↓oZ_ixL, ↓oZ_ixT, ↓aI_0, ↓aI_1, ↓aI_2, ↓nI_0, ↓nI_1, ↓lS_0, ↓lS_s, ↓aI_int, ↓aI_str, ↓aI_row, ↓aI_b2, ↓aI_i1, ↓aI_i2, ↓aI_i3, ↓aI_i4, ↓aI_i5, ↓aI_i6, ↓oZ_abyz, ↓oZ_az, ↓cZ_lenLm, ↓cZ_lenTm, ↓cZ_lenP, ↓oZ_ixP, ↓sD_P, ↓cZ_lstP, ↓cZ_abs, ↓cZ_int, ↓cZ_intB, ↓cZ_tup, ↓cZ_lstL, ↓cZ_lstT, ↓cZ_all, ↓cZ_any, ↓cZ_max2, ↓cZ_min2, ↓cZ_sum, ↓cZ_sorted, ↓xE_int, ↓xE_bl, ↓xE_str, ↓xE_non, ↓xE_var, ↓xE_op, ↓xE_neg, ↓xE_nt, ↓xE_an, ↓xE_or, ↓xE_ch, ↓xE_isN, ↓xE_notN, ↓xE_ife, ↓xE_tup, ↓xE_lst, ↓xE_sl, ↓sl1_T, ↓sl1_L, ↓xE_cb, ↓xE_isa, ↓xE_call, ↓xE_callX, ↓xE_lget, ↓xE_srs, xE_revT, ↓xE_revL, ↓xE_sw, ↓s2D_s, ↓xB_sif, ↓xE_dget2, ↓xT_tl, ↓xI_ky, ↓xS_lk0, ↓xR_x, ↓xR_call, ↓xR_lst, ↓xR_e, ↓xB_ret, ↓xB_iff, ↓xS_tryK, ↓xS_never, ↓xS_mv0, ↓xS_aug, ↓eF_l, noF_nil, noF_dat, noF_no, noF_lst, noF_dK, ↓sK_j, ↓xE_callS, ↓xE_lc, ↓xE_lc2, ↓xE_callL, ↓rvA_d, ↓tw2_t, ↓sN_0, ↓sN_s, ↓xE_lrg, ↓xE_trg, ↓xE_pop, ↓xE_idxL, ↓sT_s, ↓xE_idxT, ↓xE_dget, ↓xE_din, ↓xE_dnin, ↓xE_dset, ↓xE_dspV, ↓xE_dspC, ↓xE_dspM, ↓tE_d, ↓xI_rng3, ↓xA_nil, ↓xA_cons, ↓xT_te, ↓xT_tb, ↓xT_nt, ↓xT_an, ↓xT_or, ↓xT_yes, ↓xT_lend, ↓xP_no, ↓xP_at, ↓xI_rng1, ↓xI_rng2, ↓xI_u, ↓xI_en, ↓xI_enl, ↓xG_nm, ↓xG_tup, ↓xGs_nil, ↓xGs_cons, ↓sV_d, ↓sV_n, ↓sV_w, ↓rV_d, ↓rV_n, ↓rV_w, ↓rV_o, ↓xS_set, ↓xS_asg, ↓xS_seti, ↓xS_app, ↓xS_newD, ↓xS_dput, ↓xS_drop, ↓xS_dropX, ↓xS_raise, ↓xS_tryC, ↓xS_ret, ↓xS_retN, ↓xS_iff, ↓xS_for, ↓xS_wh, ↓xS_brk, ↓xS_cont, ↓xS_nx, ↓xS_seq, ↓xS_fz, ↓fzK_l, ↓fzK_d, ↓fzK_n, ↓fzK_D, ↓kS_nx, ↓kS_rt, ↓kS_bk, ↓kS_ct, ↓out1_rt, ↓out2_rt, ↓xE_allIn, ↓xE_inC, ↓xE_isB, ↓strD_s, ↓u_rSP1, ↓slP, c1, c2, ↓addP, ↓addP1, ↓lnR]
  rfl
theorem part2 {β : Type} {kn : Rho → Option β} {ka : Out → Option β} {e5 : Ent} (S : Sp4 L rows g a j row r1 r2 m1 m2 W f1 L1 L2 F1) : xS [0] rSP2 (spR N k L rows g a j row e5 .no .no .no) kn ka = xS [0] rSP3 (spR N k L rows g a j row e5 (.own (.lst (([(L, [], []), (L, rows ++ W, g)] : List Mt).map mT))) .no .no) kn ka := by
  have hr := S.ha
  have c1 : DL.cutD (rows.map tupI) none (some 1) = [rows.getD 0 []].map tupI := by
    have := cut_takeY (rows.map tupI) 1
    rw [show (((1 : Nat) : Int)) = 1 from rfl] at this
    rw [this, ← List.map_take]
    cases rows with
    | nil => have := hr.1; simp at this
    | cons x l => rfl
  have c2 : (List.replicate (9 - (rows.length : Int)).toNat ([rows.getD 0 []].map tupI)).flatten = W.map tupI := by
    rw [show (9 - (rows.length : Int)).toNat = 9 - rows.length by omega, S.eW]
    generalize 9 - rows.length = n
    induction n with
    | zero => rfl
    | succ n ih =>
      rw [List.replicate_succ, List.replicate_succ, List.flatten_cons, ih]
      rfl
  have c3 : rows.map tupI ++ W.map tupI = (rows ++ W).map tupI := (List.map_append ..).symm
  have lW : W.length = 9 - rows.length := by rw [S.eW, List.length_replicate]
  have lnR : ∀ {β : Type} (kz : Rz → Option β), cZ .len [.tuple (rows.map tupI)] kz = kz (.d (.int (rows.length : Nat))) := fun kz => by rw [cZ_lenTm]
  simp (config := { implicitDefEqProofs := false }) (disch := walk_at "side") only [↓reduceIte, decide_eq_true_eq, decide_true, decide_false, Bool.not_true, Bool.not_false, Bool.false_eq_true, Int.reduceEq, Int.reduceLT, Int.reduceLE, Int.reduceNeg, Int.reduceToNat, ↓okI, ↓okI2, ↓aV_d, ↓aV_o, ↓aV_n, ↓aV_w, ↓dV_d, ↓dV_wD, ↓aV_wD, ↓dO_d, ↓kV_w, ↓xE_dinD, ↓xE_dninD, ↓xE_dgetD, ↓xE_fnv, ↓xE_callF, ↓xE_callE, ↓xE_isaT, ↓xE_dspb, ↓xI_ukd, ↓xS_retD, ↓xS_fzD, ↓fzKD_D, ↓fzKD_d, ↓dV_n, ↓dV_w, ↓gE_0, ↓gE_s, ↓eL_l, ↓eD_l, ↓eV_d, ↓eV_l, ↓nA_d, ↓nA_o, ↓iD_i, ↓bD_b, ↓kD_i, ↓kD_s, ↓zD_d, ↓vZ_d, ↓vZ_n, ↓sR_0, ↓sR_s, ↓sK_n, ↓sK_0, ↓lD_l, ↓sD_l, ↓sD_t, ↓tD_t, ↓dA_nil, ↓dA_d, ↓dN_nil, ↓dN_c, ↓oZ_addI, ↓oZ_addS, ↓oZ_addT, ↓oZ_addL, ↓oZ_sub, ↓oZ_mul, ↓oZ_mulT, ↓oZ_mulL, ↓oZ_fdiv, ↓oZ_mod, ↓oZ_pow, ↓oZ_eqI, ↓oZ_eqS, ↓oZ_neS, ↓oZ_neI, ↓oZ_lt, ↓oZ_le, ↓oZ_gt, ↓oZ_ge, ↓oZ_ixL, ↓oZ_ixT, ↓aI_0, ↓aI_1, ↓aI_2, ↓nI_0, ↓nI_1, ↓lS_0, ↓lS_s, ↓aI_int, ↓aI_str, ↓aI_row, ↓aI_b2, ↓aI_i1, ↓aI_i2, ↓aI_i3, ↓aI_i4, ↓aI_i5, ↓aI_i6, ↓oZ_abyz, ↓oZ_az, ↓cZ_lenLm, ↓cZ_lenTm, ↓cZ_lenP, ↓oZ_ixP, ↓sD_P, ↓cZ_lstP, ↓cZ_abs, ↓cZ_int, ↓cZ_intB, ↓cZ_tup, ↓cZ_lstL, ↓cZ_lstT, ↓cZ_all, ↓cZ_any, ↓cZ_max2, ↓cZ_min2, ↓cZ_sum, ↓cZ_sorted, ↓xE_int, ↓xE_bl, ↓xE_str, ↓xE_non, ↓xE_var, ↓xE_op, ↓xE_neg, ↓xE_nt, ↓xE_an, ↓xE_or, ↓xE_ch, ↓xE_isN, ↓xE_notN, ↓xE_ife, ↓xE_tup, ↓xE_lst, ↓xE_sl, ↓sl1_T, ↓sl1_L, ↓xE_cb, ↓xE_isa, ↓xE_call, ↓xE_callX, ↓xE_lget, ↓xE_srs, xE_revT, ↓xE_revL, ↓xE_sw, ↓s2D_s, ↓xB_sif, ↓xE_dget2, ↓xT_tl, ↓xI_ky, ↓xS_lk0, ↓xR_x, ↓xR_call, ↓xR_lst, ↓xR_e, ↓xB_ret, ↓xB_iff, ↓xS_tryK, ↓xS_never, ↓xS_mv0, ↓xS_aug, ↓eF_l, noF_nil, noF_dat, noF_no, noF_lst, noF_dK, ↓sK_j, ↓xE_callS, ↓xE_lc, ↓xE_lc2, ↓xE_callL, ↓rvA_d, ↓tw2_t, ↓sN_0, ↓sN_s, ↓xE_lrg, ↓xE_trg, ↓xE_pop, ↓xE_idxL, ↓sT_s, ↓xE_idxT, ↓xE_dget, ↓xE_din, ↓xE_dnin, ↓xE_dset, ↓xE_dspV, ↓xE_dspC, ↓xE_dspM, ↓tE_d, ↓xI_rng3, ↓xA_nil, ↓xA_cons, ↓xT_te, ↓xT_tb, ↓xT_nt, ↓xT_an, ↓xT_or, ↓xT_yes, ↓xT_lend, ↓xP_no, ↓xP_at, ↓xI_rng1, ↓xI_rng2, ↓xI_u, ↓xI_en, ↓xI_enl, ↓xG_nm, ↓xG_tup, ↓xGs_nil, ↓xGs_cons, ↓sV_d, ↓sV_n, ↓sV_w, ↓rV_d, ↓rV_n, ↓rV_w, ↓rV_o, ↓xS_set, ↓xS_asg, ↓xS_seti, ↓xS_app, ↓xS_newD, ↓xS_dput, ↓xS_drop, ↓xS_dropX, ↓xS_raise, ↓xS_tryC, ↓xS_ret, ↓xS_retN, ↓xS_iff, ↓xS_for, ↓xS_wh, ↓xS_brk, ↓xS_cont, ↓xS_nx, ↓xS_seq, ↓xS_fz, ↓fzK_l, ↓fzK_d, ↓fzK_n, ↓fzK_D, ↓kS_nx, ↓kS_rt, ↓kS_bk, ↓kS_ct, ↓out1_rt, ↓out2_rt, ↓xE_allIn, ↓xE_inC, ↓xE_isB, ↓strD_s, ↓u_rSP2, c1, c2, c3, ↓lnR]
  rfl
theorem part3 {β : Type} {kn : Rho → Option β} {ka : Out → Option β} {bs : List (List Int)} {base : List Mt} (S : Sp4 L rows g a j row r1 r2 m1 m2 W f1 L1 L2 F1) (hb : bs.length ≤ 10) (hB : base.length ≤ 10) : xS [0] rSP3 (spR N k L rows g a j row (.own (.lst (bs.map tupI))) (.own (.lst (base.map mT))) .no .no) kn ka = xS [0] rSP4 (spR N k L rows g a j row (.dat (.list (bs.map tupI))) (.own (.lst ((base ++ bs.map fun one => (L, m1 ++ [one] ++ m2, g)).map mT))) .no .no) kn ka := by
  have hr := S.ha
  have c1 : DL.cutD (rows.map tupI) none (some (a : Int)) = m1.map tupI := by rw [cut_takeY, ← List.map_take, ← S.t1]
  have c2 : DL.cutD (rows.map tupI) (some ((a : Int) + 1)) none = m2.map tupI := by rw [cut_dropY, ← List.map_drop, ← S.t2]
  have l1 : m1.length ≤ 8 := by rw [S.t1, List.length_take]; omega
  have l2 : m2.length ≤ 8 := by rw [S.t2, List.length_drop]; omega
  have zb : (bs.map tupI).length < sizeLine := by rw [List.length_map, sizeLine_eq]; omega
  have K : lcGo (ltn [0] 12 .yes e_l_spoilt_3) (bs.map tupI) (spR N k L rows g a j row (.dat (.list (bs.map tupI))) (.own (.lst (base.map mT))) .no .no) = some (bs.map (fun one => mT (L, m1 ++ [one] ++ m2, g)), spR N k L rows g a j row (.dat (.list (bs.map tupI))) (.own (.lst (base.map mT))) .no .no) := by
    refine lc_map _ _ fun one m => ?_
    rw [ltn_x]
    have c3 : m1.map tupI ++ [tupI one] ++ m2.map tupI = (m1 ++ [one] ++ m2).map tupI := by rw [List.map_append, List.map_append]; rfl
    simp (config := { implicitDefEqProofs := false }) (disch := walk_at "side") only [↓reduceIte, decide_eq_true_eq, decide_true, decide_false, Bool.not_true, Bool.not_false, Bool.false_eq_true, Int.reduceEq, Int.reduceLT, Int.reduceLE, Int.reduceNeg, Int.reduceToNat, ↓okI, ↓okI2, ↓aV_d, ↓aV_o, ↓aV_n, ↓aV_w, ↓dV_d, ↓dV_wD, ↓aV_wD, ↓dO_d, ↓kV_w, ↓xE_dinD, ↓xE_dninD, ↓xE_dgetD, ↓xE_fnv, ↓xE_callF, ↓xE_callE, ↓xE_isaT, ↓xE_dspb, ↓xI_ukd, ↓xS_retD, ↓xS_fzD, ↓fzKD_D, ↓fzKD_d, ↓dV_n, ↓dV_w, ↓gE_0, ↓gE_s, ↓eL_l, ↓eD_l, ↓eV_d, ↓eV_l, ↓nA_d, ↓nA_o, ↓iD_i, ↓bD_b, ↓kD_i, ↓kD_s, ↓zD_d, ↓vZ_d, ↓vZ_n, ↓sR_0, ↓sR_s, ↓sK_n, ↓sK_0, ↓lD_l, ↓sD_l, ↓sD_t, ↓tD_t, ↓dA_nil, ↓dA_d, ↓dN_nil, ↓dN_c, ↓oZ_addI, ↓oZ_addS, ↓oZ_addT, ↓oZ_addL, ↓oZ_sub, ↓oZ_mul, ↓oZ_mulT, ↓oZ_mulL, ↓oZ_fdiv, ↓oZ_mod, ↓oZ_pow, ↓oZ_eqI, ↓oZ_eqS, ↓oZ_neS, ↓oZ_neI, ↓oZ_lt, ↓oZ_le, ↓oZ_gt, ↓oZ_ge, ↓oZ_ixL, ↓oZ_ixT, ↓aI_0, ↓aI_1, ↓aI_2, ↓nI_0, ↓nI_1, ↓lS_0, ↓lS_s, ↓aI_int, ↓aI_str, ↓aI_row, ↓aI_b2, ↓aI_i1, ↓aI_i2, ↓aI_i3, ↓aI_i4, ↓aI_i5, ↓aI_i6, ↓oZ_abyz, ↓oZ_az, ↓cZ_lenLm, ↓cZ_lenTm, ↓cZ_lenP, ↓oZ_ixP, ↓sD_P, ↓cZ_lstP, ↓cZ_abs, ↓cZ_int, ↓cZ_intB, ↓cZ_tup, ↓cZ_lstL, ↓cZ_lstT, ↓cZ_all, ↓cZ_any, ↓cZ_max2, ↓cZ_min2, ↓cZ_sum, ↓cZ_sorted, ↓xE_int, ↓xE_bl, ↓xE_str, ↓xE_non, ↓xE_var, ↓xE_op, ↓xE_neg, ↓xE_nt, ↓xE_an, ↓xE_or, ↓xE_ch, ↓xE_isN, ↓xE_notN, ↓xE_ife, ↓xE_tup, ↓xE_lst, ↓xE_sl, ↓sl1_T, ↓sl1_L, ↓xE_cb, ↓xE_isa, ↓xE_call, ↓xE_callX, ↓xE_lget, ↓xE_srs, xE_revT, ↓xE_revL, ↓xE_sw, ↓s2D_s, ↓xB_sif, ↓xE_dget2, ↓xT_tl, ↓xI_ky, ↓xS_lk0, ↓xR_x, ↓xR_call, ↓xR_lst, ↓xR_e, ↓xB_ret, ↓xB_iff, ↓xS_tryK, ↓xS_never, ↓xS_mv0, ↓xS_aug, ↓eF_l, noF_nil, noF_dat, noF_no, noF_lst, noF_dK, ↓sK_j, ↓xE_callS, ↓xE_lc, ↓xE_lc2, ↓xE_callL, ↓rvA_d, ↓tw2_t, ↓sN_0, ↓sN_s, ↓xE_lrg, ↓xE_trg, ↓xE_pop, ↓xE_idxL, ↓sT_s, ↓xE_idxT, ↓xE_dget, ↓xE_din, ↓xE_dnin, ↓xE_dset, ↓xE_dspV, ↓xE_dspC, ↓xE_dspM, ↓tE_d, ↓xI_rng3, ↓xA_nil, ↓xA_cons, ↓xT_te, ↓xT_tb, ↓xT_nt, ↓xT_an, ↓xT_or, ↓xT_yes, ↓xT_lend, ↓xP_no, ↓xP_at, ↓xI_rng1, ↓xI_rng2, ↓xI_u, ↓xI_en, ↓xI_enl, ↓xG_nm, ↓xG_tup, ↓xGs_nil, ↓xGs_cons, ↓sV_d, ↓sV_n, ↓sV_w, ↓rV_d, ↓rV_n, ↓rV_w, ↓rV_o, ↓xS_set, ↓xS_asg, ↓xS_seti, ↓xS_app, ↓xS_newD, ↓xS_dput, ↓xS_drop, ↓xS_dropX, ↓xS_raise, ↓xS_tryC, ↓xS_ret, ↓xS_retN, ↓xS_iff, ↓xS_for, ↓xS_wh, ↓xS_brk, ↓xS_cont, ↓xS_nx, ↓xS_seq, ↓xS_fz, ↓fzK_l, ↓fzK_d, ↓fzK_n, ↓fzK_D, ↓kS_nx, ↓kS_rt, ↓kS_bk, ↓kS_ct, ↓out1_rt, ↓out2_rt, ↓xE_allIn, ↓xE_inC, ↓xE_isB, ↓strD_s, ↓u_e_l_spoilt_3, c1, c2, c3]
    rfl
  have c4 : base.map mT ++ bs.map (fun one => mT (L, m1 ++ [one] ++ m2, g)) = (base ++ bs.map fun one => (L, m1 ++ [one] ++ m2, g)).map mT := by rw [List.map_append, List.map_map]; rfl
  simp (config := { implicitDefEqProofs := false }) (disch := walk_at "side") only [↓reduceIte, decide_eq_true_eq, decide_true, decide_false, Bool.not_true, Bool.not_false, Bool.false_eq_true, Int.reduceEq, Int.reduceLT, Int.reduceLE, Int.reduceNeg, Int.reduceToNat, ↓okI, ↓okI2, ↓aV_d, ↓aV_o, ↓aV_n, ↓aV_w, ↓dV_d, ↓dV_wD, ↓aV_wD, ↓dO_d, ↓kV_w, ↓xE_dinD, ↓xE_dninD, ↓xE_dgetD, ↓xE_fnv, ↓xE_callF, ↓xE_callE, ↓xE_isaT, ↓xE_dspb, ↓xI_ukd, ↓xS_retD, ↓xS_fzD, ↓fzKD_D, ↓fzKD_d, ↓dV_n, ↓dV_w, ↓gE_0, ↓gE_s, ↓eL_l, ↓eD_l, ↓eV_d, ↓eV_l, ↓nA_d, ↓nA_o, ↓iD_i, ↓bD_b, ↓kD_i, ↓kD_s, ↓zD_d, ↓vZ_d, ↓vZ_n, ↓sR_0, ↓sR_s, ↓sK_n, ↓sK_0, ↓lD_l, ↓sD_l, ↓sD_t, ↓tD_t, ↓dA_nil, ↓dA_d, ↓dN_nil, ↓dN_c, ↓oZ_addI, ↓oZ_addS, ↓oZ_addT, ↓oZ_addL, ↓oZ_sub, ↓oZ_mul, ↓oZ_mulT, ↓oZ_mulL, ↓oZ_fdiv, ↓oZ_mod, ↓oZ_pow, ↓oZ_eqI, ↓oZ_eqS, ↓oZ_neS, ↓oZ_neI, ↓oZ_lt, ↓oZ_le, ↓oZ_gt, ↓oZ_ge, ↓oZ_ixL, ↓oZ_ixT, ↓aI_0, ↓aI_1, ↓aI_2, ↓nI_0, ↓nI_1, ↓lS_0, ↓lS_s, ↓aI_int, ↓aI_str, ↓aI_row, ↓aI_b2, ↓aI_i1, ↓aI_i2, ↓aI_i3, ↓aI_i4, ↓aI_i5, ↓aI_i6, ↓oZ_abyz, ↓oZ_az, ↓cZ_lenLm, ↓cZ_lenTm, ↓cZ_lenP, ↓oZ_ixP, ↓sD_P, ↓cZ_lstP, ↓cZ_abs, ↓cZ_int, ↓cZ_intB, ↓cZ_tup, ↓cZ_lstL, ↓cZ_lstT, ↓cZ_all, ↓cZ_any, ↓cZ_max2, ↓cZ_min2, ↓cZ_sum, ↓cZ_sorted, ↓xE_int, ↓xE_bl, ↓xE_str, ↓xE_non, ↓xE_var, ↓xE_op, ↓xE_neg, ↓xE_nt, ↓xE_an, ↓xE_or, ↓xE_ch, ↓xE_isN, ↓xE_notN, ↓xE_ife, ↓xE_tup, ↓xE_lst, ↓xE_sl, ↓sl1_T, ↓sl1_L, ↓xE_cb, ↓xE_isa, ↓xE_call, ↓xE_callX, ↓xE_lget, ↓xE_srs, xE_revT, ↓xE_revL, ↓xE_sw, ↓s2D_s, ↓xB_sif, ↓xE_dget2, ↓xT_tl, ↓xI_ky, ↓xS_lk0, ↓xR_x, ↓xR_call, ↓xR_lst, ↓xR_e, ↓xB_ret, ↓xB_iff, ↓xS_tryK, ↓xS_never, ↓xS_mv0, ↓xS_aug, ↓eF_l, noF_nil, noF_dat, noF_no, noF_lst, noF_dK, ↓sK_j, ↓xE_callS, ↓xE_lc, ↓xE_lc2, ↓xE_callL, ↓rvA_d, ↓tw2_t, ↓sN_0, ↓sN_s, ↓xE_lrg, ↓xE_trg, ↓xE_pop, ↓xE_idxL, ↓sT_s, ↓xE_idxT, ↓xE_dget, ↓xE_din, ↓xE_dnin, ↓xE_dset, ↓xE_dspV, ↓xE_dspC, ↓xE_dspM, ↓tE_d, ↓xI_rng3, ↓xA_nil, ↓xA_cons, ↓xT_te, ↓xT_tb, ↓xT_nt, ↓xT_an, ↓xT_or, ↓xT_yes, ↓xT_lend, ↓xP_no, ↓xP_at, ↓xI_rng1, ↓xI_rng2, ↓xI_u, ↓xI_en, ↓xI_enl, ↓xG_nm, ↓xG_tup, ↓xGs_nil, ↓xGs_cons, ↓sV_d, ↓sV_n, ↓sV_w, ↓rV_d, ↓rV_n, ↓rV_w, ↓rV_o, ↓xS_set, ↓xS_asg, ↓xS_seti, ↓xS_app, ↓xS_newD, ↓xS_dput, ↓xS_drop, ↓xS_dropX, ↓xS_raise, ↓xS_tryC, ↓xS_ret, ↓xS_retN, ↓xS_iff, ↓xS_for, ↓xS_wh, ↓xS_brk, ↓xS_cont, ↓xS_nx, ↓xS_seq, ↓xS_fz, ↓fzK_l, ↓fzK_d, ↓fzK_n, ↓fzK_D, ↓kS_nx, ↓kS_rt, ↓kS_bk, ↓kS_ct, ↓out1_rt, ↓out2_rt, ↓xE_allIn, ↓xE_inC, ↓xE_isB, ↓strD_s, ↓u_rSP3, ↓lK_s K, c4]
theorem others_go : ∀ (os : List (List Int)) (base : List Mt) (e5 e7 : Ent), base.length + os.length ≤ 100 → ∃ e7', forGo (trn [0] (.nm 7) b_l_spoilt_1) (os.map tupI) (spR N k L rows g a j row e5 (.own (.lst (base.map mT))) e7 .no) = some (.nx (spR N k L rows g a j row e5 (.own (.lst ((base ++ os.map fun o => (L, rows, o)).map mT))) e7' .no))
  | [], base, e5, e7, _ => ⟨e7, by rw [List.map_nil, List.map_nil, List.append_nil]; rfl⟩
  | o :: os, base, e5, e7, h => by
    rw [List.length_cons] at h
    have z : (base.map mT).length < sizeLine := by rw [List.length_map, sizeLine_eq]; omega
    have T : trn [0] (.nm 7) b_l_spoilt_1 (tupI o) (spR N k L rows g a j row e5 (.own (.lst (base.map mT))) e7 .no) = some (.nx (spR N k L rows g a j row e5 (.own (.lst ((base ++ [(L, rows, o)]).map mT))) (.dat (tupI o)) .no)) := by
      have c : base.map mT ++ [PyData.tuple [.tuple (L.map .str), .tuple (rows.map tupI), tupI o]] = (base ++ [(L, rows, o)]).map mT := by rw [List.map_append]; rfl
      rw [trn_x]
      simp (config := { implicitDefEqProofs := false }) (disch := walk_at "side") only [↓reduceIte, decide_eq_true_eq, decide_true, decide_false, Bool.not_true, Bool.not_false, Bool.false_eq_true, Int.reduceEq, Int.reduceLT, Int.reduceLE, Int.reduceNeg, Int.reduceToNat, ↓okI, ↓okI2, ↓aV_d, ↓aV_o, ↓aV_n, ↓aV_w, ↓dV_d, ↓dV_wD, ↓aV_wD, ↓dO_d, ↓kV_w, ↓xE_dinD, ↓xE_dninD, ↓xE_dgetD, ↓xE_fnv, ↓xE_callF, ↓xE_callE, ↓xE_isaT, ↓xE_dspb, ↓xI_ukd, ↓xS_retD, ↓xS_fzD, ↓fzKD_D, ↓fzKD_d, ↓dV_n, ↓dV_w, ↓gE_0, ↓gE_s, ↓eL_l, ↓eD_l, ↓eV_d, ↓eV_l, ↓nA_d, ↓nA_o, ↓iD_i, ↓bD_b, ↓kD_i, ↓kD_s, ↓zD_d, ↓vZ_d, ↓vZ_n, ↓sR_0, ↓sR_s, ↓sK_n, ↓sK_0, ↓lD_l, ↓sD_l, ↓sD_t, ↓tD_t, ↓dA_nil, ↓dA_d, ↓dN_nil, ↓dN_c, ↓oZ_addI, ↓oZ_addS, ↓oZ_addT, ↓oZ_addL, ↓oZ_sub, ↓oZ_mul, ↓oZ_mulT, ↓oZ_mulL, ↓oZ_fdiv, ↓oZ_mod, ↓oZ_pow, ↓oZ_eqI, ↓oZ_eqS, ↓oZ_neS, ↓oZ_neI, ↓oZ_lt, ↓oZ_le, ↓oZ_gt, ↓oZ_ge, ↓oZ_ixL, ↓oZ_ixT, ↓aI_0, ↓aI_1, ↓aI_2, ↓nI_0, ↓nI_1, ↓lS_0, ↓lS_s, ↓aI_int, ↓aI_str, ↓aI_row, ↓aI_b2, ↓aI_i1, ↓aI_i2, ↓aI_i3, ↓aI_i4, ↓aI_i5, ↓aI_i6, ↓oZ_abyz, ↓oZ_az, ↓cZ_lenLm, ↓cZ_lenTm, ↓cZ_lenP, ↓oZ_ixP, ↓sD_P, ↓cZ_lstP, ↓cZ_abs, ↓cZ_int, ↓cZ_intB, ↓cZ_tup, ↓cZ_lstL, ↓cZ_lstT, ↓cZ_all, ↓cZ_any, ↓cZ_max2, ↓cZ_min2, ↓cZ_sum, ↓cZ_sorted, ↓xE_int, ↓xE_bl, ↓xE_str, ↓xE_non, ↓xE_var, ↓xE_op, ↓xE_neg, ↓xE_nt, ↓xE_an, ↓xE_or, ↓xE_ch, ↓xE_isN, ↓xE_notN, ↓xE_ife, ↓xE_tup, ↓xE_lst, ↓xE_sl, ↓sl1_T, ↓sl1_L, ↓xE_cb, ↓xE_isa, ↓xE_call, ↓xE_callX, ↓xE_lget, ↓xE_srs, xE_revT, ↓xE_revL, ↓xE_sw, ↓s2D_s, ↓xB_sif, ↓xE_dget2, ↓xT_tl, ↓xI_ky, ↓xS_lk0, ↓xR_x, ↓xR_call, ↓xR_lst, ↓xR_e, ↓xB_ret, ↓xB_iff, ↓xS_tryK, ↓xS_never, ↓xS_mv0, ↓xS_aug, ↓eF_l, noF_nil, noF_dat, noF_no, noF_lst, noF_dK, ↓sK_j, ↓xE_callS, ↓xE_lc, ↓xE_lc2, ↓xE_callL, ↓rvA_d, ↓tw2_t, ↓sN_0, ↓sN_s, ↓xE_lrg, ↓xE_trg, ↓xE_pop, ↓xE_idxL, ↓sT_s, ↓xE_idxT, ↓xE_dget, ↓xE_din, ↓xE_dnin, ↓xE_dset, ↓xE_dspV, ↓xE_dspC, ↓xE_dspM, ↓tE_d, ↓xI_rng3, ↓xA_nil, ↓xA_cons, ↓xT_te, ↓xT_tb, ↓xT_nt, ↓xT_an, ↓xT_or, ↓xT_yes, ↓xT_lend, ↓xP_no, ↓xP_at, ↓xI_rng1, ↓xI_rng2, ↓xI_u, ↓xI_en, ↓xI_enl, ↓xG_nm, ↓xG_tup, ↓xGs_nil, ↓xGs_cons, ↓sV_d, ↓sV_n, ↓sV_w, ↓rV_d, ↓rV_n, ↓rV_w, ↓rV_o, ↓xS_set, ↓xS_asg, ↓xS_seti, ↓xS_app, ↓xS_newD, ↓xS_dput, ↓xS_drop, ↓xS_dropX, ↓xS_raise, ↓xS_tryC, ↓xS_ret, ↓xS_retN, ↓xS_iff, ↓xS_for, ↓xS_wh, ↓xS_brk, ↓xS_cont, ↓xS_nx, ↓xS_seq, ↓xS_fz, ↓fzK_l, ↓fzK_d, ↓fzK_n, ↓fzK_D, ↓kS_nx, ↓kS_rt, ↓kS_bk, ↓kS_ct, ↓out1_rt, ↓out2_rt, ↓xE_allIn, ↓xE_inC, ↓xE_isB, ↓strD_s, ↓u_b_l_spoilt_1, c]
    obtain ⟨e, ih⟩ := others_go os (base ++ [(L, rows, o)]) e5 (.dat (tupI o)) (by rw [List.length_append, List.length_singleton]; omega)
    refine ⟨e, ?_⟩
    show (trn [0] (.nm 7) b_l_spoilt_1 (tupI o) _).bind _ = _
    rw [T]
    show forGo _ _ _ = _
    rw [ih, List.append_assoc]
    rfl
abbrev othersI (rows : List (List Int)) (g : List Int) (a : Nat) : List (List Int) := [[(rows.length : Int)], [-1], [0, 0], g ++ [(rows.length : Int)], [(a : Int), (a : Int)], [1, 0], g.reverse ++ [0]]
theorem part4 {β : Type} {kn : Rho → Option β} {ka : Out → Option β} {base : List Mt} {e5 : Ent} (S : Sp4 L rows g a j row r1 r2 m1 m2 W f1 L1 L2 F1) (hB : base.length ≤ 20) : ∃ e7, xS [0] rSP4 (spR N k L rows g a j row e5 (.own (.lst (base.map mT))) .no .no) kn ka = xS [0] rSP5 (spR N k L rows g a j row e5 (.own (.lst ((base ++ (othersI rows g a).map fun o => (L, rows, o)).map mT))) e7 .no) kn ka := by
  have hr := S.ha
  have hg := S.hg
  obtain ⟨e7, K⟩ := others_go (N := N) (k := k) (L := L) (rows := rows) (g := g) (a := a) (j := j) (row := row) (othersI rows g a) base e5 .no (by show base.length + 7 ≤ 100; omega)
  have K : forGo (trn [0] (.nm 7) b_l_spoilt_1) [PyData.tuple [.int (rows.length : Nat)], .tuple [.int (-1)], .tuple [.int 0, .int 0], tupI (g ++ [((rows.length : Nat) : Int)]), .tuple [.int (a : Nat), .int (a : Nat)], .tuple [.int 1, .int 0], tupI (g.reverse ++ [0])] (spR N k L rows g a j row e5 (.own (.lst (base.map mT))) .no .no) = some (.nx (spR N k L rows g a j row e5 (.own (.lst ((base ++ (othersI rows g a).map fun o => (L, rows, o)).map mT))) e7 .no)) := K
  refine ⟨e7, ?_⟩
  have lnR : ∀ {β : Type} (kz : Rz → Option β), cZ .len [.tuple (rows.map tupI)] kz = kz (.d (.int (rows.length : Nat))) := fun kz => by rw [cZ_lenTm]
  have tD4 : ∀ {β : Type} (kl : List D → Option β), tD (tupI g) kl = kl (g.map .int) := fun kl => rfl
  have rv : PyData.tuple (g.map PyData.int).reverse = tupI g.reverse := by unfold tupI; rw [List.map_reverse]
  have lrv : g.reverse.length ≤ 8 := by rw [List.length_reverse]; exact hg
  simp (config := { implicitDefEqProofs := false }) (disch := walk_at "side") only [↓reduceIte, decide_eq_true_eq, decide_true, decide_false, Bool.not_true, Bool.not_false, Bool.false_eq_true, Int.reduceEq, Int.reduceLT, Int.reduceLE, Int.reduceNeg, Int.reduceToNat, ↓okI, ↓okI2, ↓aV_d, ↓aV_o, ↓aV_n, ↓aV_w, ↓dV_d, ↓dV_wD, ↓aV_wD, ↓dO_d, ↓kV_w, ↓xE_dinD, ↓xE_dninD, ↓xE_dgetD, ↓xE_fnv, ↓xE_callF, ↓xE_callE, ↓xE_isaT, ↓xE_dspb, ↓xI_ukd, ↓xS_retD, ↓xS_fzD, ↓fzKD_D, ↓fzKD_d, ↓dV_n, ↓dV_w, ↓gE_0, ↓gE_s, ↓eL_l, ↓eD_l, ↓eV_d, ↓eV_l, ↓nA_d, ↓nA_o, ↓iD_i, ↓bD_b, ↓kD_i, ↓kD_s, ↓zD_d, ↓vZ_d, ↓vZ_n, ↓sR_0, ↓sR_s, ↓sK_n, ↓sK_0, ↓lD_l, ↓sD_l, ↓sD_t, ↓tD_t, ↓dA_nil, ↓dA_d, ↓dN_nil, ↓dN_c, ↓oZ_addI, ↓oZ_addS, ↓oZ_addT, ↓oZ_addL, ↓oZ_sub, ↓oZ_mul, ↓oZ_mulT, ↓oZ_mulL, ↓oZ_fdiv, ↓oZ_mod, ↓oZ_pow, ↓oZ_eqI, ↓oZ_eqS, ↓oZ_neS, ↓oZ_neI, ↓oZ_lt, ↓oZ_le, ↓oZ_gt, ↓oZ_ge, ↓oZ_ixL, ↓oZ_ixT, ↓aI_0, ↓aI_1, ↓aI_2, ↓nI_0, ↓nI_1, ↓lS_0, ↓lS_s, ↓aI_int, ↓aI_str, ↓aI_row, ↓aI_b2, ↓aI_i1, ↓aI_i2, ↓aI_i3, ↓aI_i4, ↓aI_i5, ↓aI_i6, ↓oZ_abyz, ↓oZ_az, ↓cZ_lenLm, ↓cZ_lenTm, ↓cZ_lenP, ↓oZ_ixP, ↓sD_P, ↓cZ_lstP, ↓cZ_abs, ↓cZ_int, ↓cZ_intB, ↓cZ_tup, ↓cZ_lstL, ↓cZ_lstT, ↓cZ_all, ↓cZ_any, ↓cZ_max2, ↓cZ_min2, ↓cZ_sum, ↓cZ_sorted, ↓xE_int, ↓xE_bl, ↓xE_str, ↓xE_non, ↓xE_var, ↓xE_op, ↓xE_neg, ↓xE_nt, ↓xE_an, ↓xE_or, ↓xE_ch, ↓xE_isN, ↓xE_notN, ↓xE_ife, ↓xE_tup, ↓xE_lst, ↓xE_sl, ↓sl1_T, ↓sl1_L, ↓xE_cb, ↓xE_isa, ↓xE_call, ↓xE_callX, ↓xE_lget, ↓xE_srs, xE_revT, ↓xE_revL, ↓xE_sw, ↓s2D_s, ↓xB_sif, ↓xE_dget2, ↓xT_tl, ↓xI_ky, ↓xS_lk0, ↓xR_x, ↓xR_call, ↓xR_lst, ↓xR_e, ↓xB_ret, ↓xB_iff, ↓xS_tryK, ↓xS_never, ↓xS_mv0, ↓xS_aug, ↓eF_l, noF_nil, noF_dat, noF_no, noF_lst, noF_dK, ↓sK_j, ↓xE_callS, ↓xE_lc, ↓xE_lc2, ↓xE_callL, ↓rvA_d, ↓tw2_t, ↓sN_0, ↓sN_s, ↓xE_lrg, ↓xE_trg, ↓xE_pop, ↓xE_idxL, ↓sT_s, ↓xE_idxT, ↓xE_dget, ↓xE_din, ↓xE_dnin, ↓xE_dset, ↓xE_dspV, ↓xE_dspC, ↓xE_dspM, ↓tE_d, ↓xI_rng3, ↓xA_nil, ↓xA_cons, ↓xT_te, ↓xT_tb, ↓xT_nt, ↓xT_an, ↓xT_or, ↓xT_yes, ↓xT_lend, ↓xP_no, ↓xP_at, ↓xI_rng1, ↓xI_rng2, ↓xI_u, ↓xI_en, ↓xI_enl, ↓xG_nm, ↓xG_tup, ↓xGs_nil, ↓xGs_cons, ↓sV_d, ↓sV_n, ↓sV_w, ↓rV_d, ↓rV_n, ↓rV_w, ↓rV_o, ↓xS_set, ↓xS_asg, ↓xS_seti, ↓xS_app, ↓xS_newD, ↓xS_dput, ↓xS_drop, ↓xS_dropX, ↓xS_raise, ↓xS_tryC, ↓xS_ret, ↓xS_retN, ↓xS_iff, ↓xS_for, ↓xS_wh, ↓xS_brk, ↓xS_cont, ↓xS_nx, ↓xS_seq, ↓xS_fz, ↓fzK_l, ↓fzK_d, ↓fzK_n, ↓fzK_D, ↓kS_nx, ↓kS_rt, ↓kS_bk, ↓kS_ct, ↓out1_rt, ↓out2_rt, ↓xE_allIn, ↓xE_inC, ↓xE_isB, ↓strD_s, ↓u_rSP4, ↓lnR, ↓tD4, rv, ↓addP1, ↓fK_s K]
theorem part5 {β : Type} {kn : Rho → Option β} {ka : Out → Option β} {base : List Mt} {e5 e7 : Ent} (S : Sp4 L rows g a j row r1 r2 m1 m2 W f1 L1 L2 F1) (hB : base.length ≤ 20) : xS [0] rSP5 (spR N k L rows g a j row e5 (.own (.lst (base.map mT))) e7 .no) kn ka = xS [0] rSP6 (spR N k L rows g a j row e5 (.own (.lst ((base ++ [([], rows, g), (L1 ++ [("none" : Str)] ++ L2, rows, g), (L ++ F1, rows, g)]).map mT))) e7 .no) kn ka := by
  have hj := S.hj
  have c1 : DL.cutD (L.map PyData.str) none (some (j : Int)) = L1.map .str := by rw [cut_takeY, ← List.map_take, ← S.u1]
  have c2 : DL.cutD (L.map PyData.str) (some ((j : Int) + 1)) none = L2.map .str := by rw [cut_dropY, ← List.map_drop, ← S.u2]
  have c3 : DL.cutD (L.map PyData.str) none (some 1) = F1.map .str := by
    have := cut_takeY (L.map PyData.str) 1
    rw [show (((1 : Nat) : Int)) = 1 from rfl] at this
    rw [this, ← List.map_take, ← S.eF]
  have l1 : L1.length ≤ 4 := by rw [S.u1, List.length_take]; omega
  have l2 : L2.length ≤ 4 := by rw [S.u2, List.length_drop]; omega
  have l3 : F1.length ≤ 1 := by rw [S.eF, List.length_take]; omega
  have c4 : L1.map PyData.str ++ [.str "none"] ++ L2.map .str = (L1 ++ [("none" : Str)] ++ L2).map .str := by rw [List.map_append, List.map_append]; rfl
  have c5 : L.map PyData.str ++ F1.map .str = (L ++ F1).map .str := (List.map_append ..).symm
  have c6 : base.map mT ++ [PyData.tuple [.tuple [], .tuple (rows.map tupI), tupI g], .tuple [.tuple ((L1 ++ [("none" : Str)] ++ L2).map .str), .tuple (rows.map tupI), tupI g], .tuple [.tuple ((L ++ F1).map .str), .tuple (rows.map tupI), tupI g]] = (base ++ [([], rows, g), (L1 ++ [("none" : Str)] ++ L2, rows, g), (L ++ F1, rows, g)]).map mT := by rw [List.map_append (f := mT)]; rfl
  simp (config := { implicitDefEqProofs := false }) (disch := walk_at "side") only [↓reduceIte, decide_eq_true_eq, decide_true, decide_false, Bool.not_true, Bool.not_false, Bool.false_eq_true, Int.reduceEq, Int.reduceLT, Int.reduceLE, Int.reduceNeg, Int.reduceToNat, ↓okI, ↓okI2, ↓aV_d, ↓aV_o, ↓aV_n, ↓aV_w, ↓dV_d, ↓dV_wD, ↓aV_wD, ↓dO_d, ↓kV_w, ↓xE_dinD, ↓xE_dninD, ↓xE_dgetD, ↓xE_fnv, ↓xE_callF, ↓xE_callE, ↓xE_isaT, ↓xE_dspb, ↓xI_ukd, ↓xS_retD, ↓xS_fzD, ↓fzKD_D, ↓fzKD_d, ↓dV_n, ↓dV_w, ↓gE_0, ↓gE_s, ↓eL_l, ↓eD_l, ↓eV_d, ↓eV_l, ↓nA_d, ↓nA_o, ↓iD_i, ↓bD_b, ↓kD_i, ↓kD_s, ↓zD_d, ↓vZ_d, ↓vZ_n, ↓sR_0, ↓sR_s, ↓sK_n, ↓sK_0, ↓lD_l, ↓sD_l, ↓sD_t, ↓tD_t, ↓dA_nil, ↓dA_d, ↓dN_nil, ↓dN_c, ↓oZ_addI, ↓oZ_addS, ↓oZ_addT, ↓oZ_addL, ↓oZ_sub, ↓oZ_mul, ↓oZ_mulT, ↓oZ_mulL, ↓oZ_fdiv, ↓oZ_mod, ↓oZ_pow, ↓oZ_eqI, ↓oZ_eqS, ↓oZ_neS, ↓oZ_neI, ↓oZ_lt, ↓oZ_le, ↓oZ_gt, ↓oZ_ge, ↓oZ_ixL, ↓oZ_ixT, ↓aI_0, ↓aI_1, ↓aI_2, ↓nI_0, ↓nI_1, ↓lS_0, ↓lS_s, ↓aI_int, ↓aI_str, ↓aI_row, ↓aI_b2, ↓aI_i1, ↓aI_i2, ↓aI_i3, ↓aI_i4, ↓aI_i5, ↓aI_i6, ↓oZ_abyz, ↓oZ_az, ↓cZ_lenLm, ↓cZ_lenTm, ↓cZ_lenP, ↓oZ_ixP, ↓sD_P, ↓cZ_lstP, ↓cZ_abs, ↓cZ_int, ↓cZ_intB, ↓cZ_tup, ↓cZ_lstL, ↓cZ_lstT, ↓cZ_all, ↓cZ_any, ↓cZ_max2, ↓cZ_min2, ↓cZ_sum, ↓cZ_sorted, ↓xE_int, ↓xE_bl, ↓xE_str, ↓xE_non, ↓xE_var, ↓xE_op, ↓xE_neg, ↓xE_nt, ↓xE_an, ↓xE_or, ↓xE_ch, ↓xE_isN, ↓xE_notN, ↓xE_ife, ↓xE_tup, ↓xE_lst, ↓xE_sl, ↓sl1_T, ↓sl1_L, ↓xE_cb, ↓xE_isa, ↓xE_call, ↓xE_callX, ↓xE_lget, ↓xE_srs, xE_revT, ↓xE_revL, ↓xE_sw, ↓s2D_s, ↓xB_sif, ↓xE_dget2, ↓xT_tl, ↓xI_ky, ↓xS_lk0, ↓xR_x, ↓xR_call, ↓xR_lst, ↓xR_e, ↓xB_ret, ↓xB_iff, ↓xS_tryK, ↓xS_never, ↓xS_mv0, ↓xS_aug, ↓eF_l, noF_nil, noF_dat, noF_no, noF_lst, noF_dK, ↓sK_j, ↓xE_callS, ↓xE_lc, ↓xE_lc2, ↓xE_callL, ↓rvA_d, ↓tw2_t, ↓sN_0, ↓sN_s, ↓xE_lrg, ↓xE_trg, ↓xE_pop, ↓xE_idxL, ↓sT_s, ↓xE_idxT, ↓xE_dget, ↓xE_din, ↓xE_dnin, ↓xE_dset, ↓xE_dspV, ↓xE_dspC, ↓xE_dspM, ↓tE_d, ↓xI_rng3, ↓xA_nil, ↓xA_cons, ↓xT_te, ↓xT_tb, ↓xT_nt, ↓xT_an, ↓xT_or, ↓xT_yes, ↓xT_lend, ↓xP_no, ↓xP_at, ↓xI_rng1, ↓xI_rng2, ↓xI_u, ↓xI_en, ↓xI_enl, ↓xG_nm, ↓xG_tup, ↓xGs_nil, ↓xGs_cons, ↓sV_d, ↓sV_n, ↓sV_w, ↓rV_d, ↓rV_n, ↓rV_w, ↓rV_o, ↓xS_set, ↓xS_asg, ↓xS_seti, ↓xS_app, ↓xS_newD, ↓xS_dput, ↓xS_drop, ↓xS_dropX, ↓xS_raise, ↓xS_tryC, ↓xS_ret, ↓xS_retN, ↓xS_iff, ↓xS_for, ↓xS_wh, ↓xS_brk, ↓xS_cont, ↓xS_nx, ↓xS_seq, ↓xS_fz, ↓fzK_l, ↓fzK_d, ↓fzK_n, ↓fzK_D, ↓kS_nx, ↓kS_rt, ↓kS_bk, ↓kS_ct, ↓out1_rt, ↓out2_rt, ↓xE_allIn, ↓xE_inC, ↓xE_isB, ↓strD_s, ↓u_rSP5, c1, c2, c3, c4, c5, c6]
end
end CS
namespace CS
open PySem PySem.Spec PyProof.Rows L2 DL EV
local macro_rules | `(tactic| walk_at "side") => `(tactic| first | omega | (simp only [List.length_cons, List.length_nil, List.length_map, List.length_append, List.length_range, PySem.sizeLine_eq]; omega) | assumption | (simp; done))
section
variable {N : List Int} {k : Int} {L : List Str} {rows : List (List Int)} {g row : List Int} {a j : Nat}
theorem part6 {β : Type} {kn : Rho → Option β} {ka : Out → Option β} {V : List Mt} {e5 e7 : Ent} (G : Good N) (h0 : 0 ≤ k) (h1 : k + 10 ≤ KMax) (hV : 1 ≤ V.length ∧ V.length ≤ 40) : ∃ v ∈ V, xS [0] rSP6 (spR N k L rows g a j row e5 (.own (.lst (V.map mT))) e7 .no) kn ka = xS [0] rSP7 (spR N (k + 1) L rows g a j row e5 (.own (.lst (V.map mT))) e7 (.dat (mT v))) kn ka := by
  have a0 := nxt_lo (N := N) (k := k) (many := (V.length : Nat)) (by omega)
  have a1 := nxt_hi (N := N) (k := k) (many := (V.length : Nat)) (by omega)
  have KN : ∀ {β : Type} (kv : Vl → List D → Option β), cKS f_l_next (stAt N k) [.int (V.length : Nat)] kv = kv (.d (.int (nxt N k (V.length : Nat)))) (stAt N (k + 1)) := fun kv => nextK G h0 (by omega) (by omega)
  generalize nxt N k (V.length : Nat) = i at *
  have ix : ∀ {β : Type} (kz : Rz → Option β), oZ .ix (.list (V.map mT)) (.int i) kz = kz (.d (mT (V.getD i.toNat ([], [], [])))) := fun kz => by rw [oZ_ixL, aI_map ([], [], []) a0 a1]
  refine ⟨V.getD i.toNat ([], [], []), ?_, ?_⟩
  · rw [List.getD_eq_getElem?_getD, List.getElem?_eq_getElem (by omega : i.toNat < V.length)]
    exact List.getElem_mem _
  · simp (config := { implicitDefEqProofs := false }) (disch := walk_at "side") only [↓reduceIte, decide_eq_true_eq, decide_true, decide_false, Bool.not_true, Bool.not_false, Bool.false_eq_true, Int.reduceEq, Int.reduceLT, Int.reduceLE, Int.reduceNeg, Int.reduceToNat, ↓okI, ↓okI2, ↓aV_d, ↓aV_o, ↓aV_n, ↓aV_w, ↓dV_d, ↓dV_wD, ↓aV_wD, ↓dO_d, ↓kV_w, ↓xE_dinD, ↓xE_dninD, ↓xE_dgetD, ↓xE_fnv, ↓xE_callF, ↓xE_callE, ↓xE_isaT, ↓xE_dspb, ↓xI_ukd, ↓xS_retD, ↓xS_fzD, ↓fzKD_D, ↓fzKD_d, ↓dV_n, ↓dV_w, ↓gE_0, ↓gE_s, ↓eL_l, ↓eD_l, ↓eV_d, ↓eV_l, ↓nA_d, ↓nA_o, ↓iD_i, ↓bD_b, ↓kD_i, ↓kD_s, ↓zD_d, ↓vZ_d, ↓vZ_n, ↓sR_0, ↓sR_s, ↓sK_n, ↓sK_0, ↓lD_l, ↓sD_l, ↓sD_t, ↓tD_t, ↓dA_nil, ↓dA_d, ↓dN_nil, ↓dN_c, ↓oZ_addI, ↓oZ_addS, ↓oZ_addT, ↓oZ_addL, ↓oZ_sub, ↓oZ_mul, ↓oZ_mulT, ↓oZ_mulL, ↓oZ_fdiv, ↓oZ_mod, ↓oZ_pow, ↓oZ_eqI, ↓oZ_eqS, ↓oZ_neS, ↓oZ_neI, ↓oZ_lt, ↓oZ_le, ↓oZ_gt, ↓oZ_ge, ↓oZ_ixL, ↓oZ_ixT, ↓aI_0, ↓aI_1, ↓aI_2, ↓nI_0, ↓nI_1, ↓lS_0, ↓lS_s, ↓aI_int, ↓aI_str, ↓aI_row, ↓aI_b2, ↓aI_i1, ↓aI_i2, ↓aI_i3, ↓aI_i4, ↓aI_i5, ↓aI_i6, ↓oZ_abyz, ↓oZ_az, ↓cZ_lenLm, ↓cZ_lenTm, ↓cZ_lenP, ↓oZ_ixP, ↓sD_P, ↓cZ_lstP, ↓cZ_abs, ↓cZ_int, ↓cZ_intB, ↓cZ_tup, ↓cZ_lstL, ↓cZ_lstT, ↓cZ_all, ↓cZ_any, ↓cZ_max2, ↓cZ_min2, ↓cZ_sum, ↓cZ_sorted, ↓xE_int, ↓xE_bl, ↓xE_str, ↓xE_non, ↓xE_var, ↓xE_op, ↓xE_neg, ↓xE_nt, ↓xE_an, ↓xE_or, ↓xE_ch, ↓xE_isN, ↓xE_notN, ↓xE_ife, ↓xE_tup, ↓xE_lst, ↓xE_sl, ↓sl1_T, ↓sl1_L, ↓xE_cb, ↓xE_isa, ↓xE_call, ↓xE_callX, ↓xE_lget, ↓xE_srs, xE_revT, ↓xE_revL, ↓xE_sw, ↓s2D_s, ↓xB_sif, ↓xE_dget2, ↓xT_tl, ↓xI_ky, ↓xS_lk0, ↓xR_x, ↓xR_call, ↓xR_lst, ↓xR_e, ↓xB_ret, ↓xB_iff, ↓xS_tryK, ↓xS_never, ↓xS_mv0, ↓xS_aug, ↓eF_l, noF_nil, noF_dat, noF_no, noF_lst, noF_dK, ↓sK_j, ↓xE_callS, ↓xE_lc, ↓xE_lc2, ↓xE_callL, ↓rvA_d, ↓tw2_t, ↓sN_0, ↓sN_s, ↓xE_lrg, ↓xE_trg, ↓xE_pop, ↓xE_idxL, ↓sT_s, ↓xE_idxT, ↓xE_dget, ↓xE_din, ↓xE_dnin, ↓xE_dset, ↓xE_dspV, ↓xE_dspC, ↓xE_dspM, ↓tE_d, ↓xI_rng3, ↓xA_nil, ↓xA_cons, ↓xT_te, ↓xT_tb, ↓xT_nt, ↓xT_an, ↓xT_or, ↓xT_yes, ↓xT_lend, ↓xP_no, ↓xP_at, ↓xI_rng1, ↓xI_rng2, ↓xI_u, ↓xI_en, ↓xI_enl, ↓xG_nm, ↓xG_tup, ↓xGs_nil, ↓xGs_cons, ↓sV_d, ↓sV_n, ↓sV_w, ↓rV_d, ↓rV_n, ↓rV_w, ↓rV_o, ↓xS_set, ↓xS_asg, ↓xS_seti, ↓xS_app, ↓xS_newD, ↓xS_dput, ↓xS_drop, ↓xS_dropX, ↓xS_raise, ↓xS_tryC, ↓xS_ret, ↓xS_retN, ↓xS_iff, ↓xS_for, ↓xS_wh, ↓xS_brk, ↓xS_cont, ↓xS_nx, ↓xS_seq, ↓xS_fz, ↓fzK_l, ↓fzK_d, ↓fzK_n, ↓fzK_D, ↓kS_nx, ↓kS_rt, ↓kS_bk, ↓kS_ct, ↓out1_rt, ↓out2_rt, ↓xE_allIn, ↓xE_inC, ↓xE_isB, ↓strD_s, ↓u_rSP6, ↓KN, ↓ix]
def condB (rows : List (List Int)) (g : List Int) (v : Mt) : Bool := (decide (v.2.2 = [1, 0]) && decide ((rows.length : Int) < 2)) || (decide (v.2.2 = [0]) && decide (v.2.2 = g.reverse ++ [0]))
theorem part7 {v : Mt} {e5 e6 e7 : Ent} (hg : g.length ≤ 8) : xS [0] rSP7 (spR N k L rows g a j row e5 e6 e7 (.dat (mT v))) (fun ρ => gE ρ 0 fun e => eL e fun s => some (RetV.dat .none, s)) out2 = some (.dat (mT (if condB rows g v then (L, [], []) else v)), stAt N k) := by
  have E1 : ∀ {β : Type} (kz : Rz → Option β), oZ .eq (tupI v.2.2) (.tuple [.int 1, .int 0]) kz = kz (.d (.bool (decide (v.2.2 = [1, 0])))) := fun kz => eqP (b := [1, 0])
  have E3 : ∀ {β : Type} (kz : Rz → Option β), oZ .eq (tupI v.2.2) (.tuple [.int 0]) kz = kz (.d (.bool (decide (v.2.2 = [0])))) := fun kz => eqP (b := [0])
  have E4 : ∀ {β : Type} (kz : Rz → Option β), oZ .eq (tupI v.2.2) (tupI (g.reverse ++ [0])) kz = kz (.d (.bool (decide (v.2.2 = g.reverse ++ [0])))) := fun kz => eqP
  have E2 : ∀ {β : Type} (kz : Rz → Option β), oZ .lt (.int (rows.length : Nat)) (.int 2) kz = kz (.d (.bool (decide ((rows.length : Int) < 2)))) := fun kz => oZ_lt
  have I8 : ∀ {β : Type} (kz : Rz → Option β), oZ .ix (mT v) (.int 2) kz = kz (.d (tupI v.2.2)) := fun kz => rfl
  have lnR : ∀ {β : Type} (kz : Rz → Option β), cZ .len [.tuple (rows.map tupI)] kz = kz (.d (.int (rows.length : Nat))) := fun kz => by rw [cZ_lenTm]
  have tD4 : ∀ {β : Type} (kl : List D → Option β), tD (tupI g) kl = kl (g.map .int) := fun kl => rfl
  have rv : PyData.tuple (g.map PyData.int).reverse = tupI g.reverse := by unfold tupI; rw [List.map_reverse]
  have lrv : g.reverse.length ≤ 8 := by rw [List.length_reverse]; exact hg
  unfold condB
  generalize decide (v.2.2 = [1, 0]) = b1 at *
  generalize decide ((rows.length : Int) < 2) = b2 at *
  generalize decide (v.2.2 = [0]) = b3 at *
  generalize decide (v.2.2 = g.reverse ++ [0]) = b4 at *
  have m0 : PyData.tuple [.tuple (L.map .str), .tuple [], .tuple []] = mT (L, [], []) := rfl
  cases b1 <;> cases b2 <;> cases b3 <;> cases b4 <;> simp (config := { implicitDefEqProofs := false }) (disch := walk_at "side") only [↓reduceIte, decide_eq_true_eq, decide_true, decide_false, Bool.not_true, Bool.not_false, Bool.false_eq_true, Int.reduceEq, Int.reduceLT, Int.reduceLE, Int.reduceNeg, Int.reduceToNat, ↓okI, ↓okI2, ↓aV_d, ↓aV_o, ↓aV_n, ↓aV_w, ↓dV_d, ↓dV_wD, ↓aV_wD, ↓dO_d, ↓kV_w, ↓xE_dinD, ↓xE_dninD, ↓xE_dgetD, ↓xE_fnv, ↓xE_callF, ↓xE_callE, ↓xE_isaT, ↓xE_dspb, ↓xI_ukd, ↓xS_retD, ↓xS_fzD, ↓fzKD_D, ↓fzKD_d, ↓dV_n, ↓dV_w, ↓gE_0, ↓gE_s, ↓eL_l, ↓eD_l, ↓eV_d, ↓eV_l, ↓nA_d, ↓nA_o, ↓iD_i, ↓bD_b, ↓kD_i, ↓kD_s, ↓zD_d, ↓vZ_d, ↓vZ_n, ↓sR_0, ↓sR_s, ↓sK_n, ↓sK_0, ↓lD_l, ↓sD_l, ↓sD_t, ↓tD_t, ↓dA_nil, ↓dA_d, ↓dN_nil, ↓dN_c, ↓oZ_addI, ↓oZ_addS, ↓oZ_addT, ↓oZ_addL, ↓oZ_sub, ↓oZ_mul, ↓oZ_mulT, ↓oZ_mulL, ↓oZ_fdiv, ↓oZ_mod, ↓oZ_pow, ↓oZ_eqI, ↓oZ_eqS, ↓oZ_neS, ↓oZ_neI, ↓oZ_lt, ↓oZ_le, ↓oZ_gt, ↓oZ_ge, ↓oZ_ixL, ↓oZ_ixT, ↓aI_0, ↓aI_1, ↓aI_2, ↓nI_0, ↓nI_1, ↓lS_0, ↓lS_s, ↓aI_int, ↓aI_str, ↓aI_row, ↓aI_b2, ↓aI_i1, ↓aI_i2, ↓aI_i3, ↓aI_i4, ↓aI_i5, ↓aI_i6, ↓oZ_abyz, ↓oZ_az, ↓cZ_lenLm, ↓cZ_lenTm, ↓cZ_lenP, ↓oZ_ixP, ↓sD_P, ↓cZ_lstP, ↓cZ_abs, ↓cZ_int, ↓cZ_intB, ↓cZ_tup, ↓cZ_lstL, ↓cZ_lstT, ↓cZ_all, ↓cZ_any, ↓cZ_max2, ↓cZ_min2, ↓cZ_sum, ↓cZ_sorted, ↓xE_int, ↓xE_bl, ↓xE_str, ↓xE_non, ↓xE_var, ↓xE_op, ↓xE_neg, ↓xE_nt, ↓xE_an, ↓xE_or, ↓xE_ch, ↓xE_isN, ↓xE_notN, ↓xE_ife, ↓xE_tup, ↓xE_lst, ↓xE_sl, ↓sl1_T, ↓sl1_L, ↓xE_cb, ↓xE_isa, ↓xE_call, ↓xE_callX, ↓xE_lget, ↓xE_srs, xE_revT, ↓xE_revL, ↓xE_sw, ↓s2D_s, ↓xB_sif, ↓xE_dget2, ↓xT_tl, ↓xI_ky, ↓xS_lk0, ↓xR_x, ↓xR_call, ↓xR_lst, ↓xR_e, ↓xB_ret, ↓xB_iff, ↓xS_tryK, ↓xS_never, ↓xS_mv0, ↓xS_aug, ↓eF_l, noF_nil, noF_dat, noF_no, noF_lst, noF_dK, ↓sK_j, ↓xE_callS, ↓xE_lc, ↓xE_lc2, ↓xE_callL, ↓rvA_d, ↓tw2_t, ↓sN_0, ↓sN_s, ↓xE_lrg, ↓xE_trg, ↓xE_pop, ↓xE_idxL, ↓sT_s, ↓xE_idxT, ↓xE_dget, ↓xE_din, ↓xE_dnin, ↓xE_dset, ↓xE_dspV, ↓xE_dspC, ↓xE_dspM, ↓tE_d, ↓xI_rng3, ↓xA_nil, ↓xA_cons, ↓xT_te, ↓xT_tb, ↓xT_nt, ↓xT_an, ↓xT_or, ↓xT_yes, ↓xT_lend, ↓xP_no, ↓xP_at, ↓xI_rng1, ↓xI_rng2, ↓xI_u, ↓xI_en, ↓xI_enl, ↓xG_nm, ↓xG_tup, ↓xGs_nil, ↓xGs_cons, ↓sV_d, ↓sV_n, ↓sV_w, ↓rV_d, ↓rV_n, ↓rV_w, ↓rV_o, ↓xS_set, ↓xS_asg, ↓xS_seti, ↓xS_app, ↓xS_newD, ↓xS_dput, ↓xS_drop, ↓xS_dropX, ↓xS_raise, ↓xS_tryC, ↓xS_ret, ↓xS_retN, ↓xS_iff, ↓xS_for, ↓xS_wh, ↓xS_brk, ↓xS_cont, ↓xS_nx, ↓xS_seq, ↓xS_fz, ↓fzK_l, ↓fzK_d, ↓fzK_n, ↓fzK_D, ↓kS_nx, ↓kS_rt, ↓kS_bk, ↓kS_ct, ↓out1_rt, ↓out2_rt, ↓xE_allIn, ↓xE_inC, ↓xE_isB, ↓strD_s, ↓u_rSP7, ↓E1, ↓E2, ↓E3, ↓E4, ↓I8, ↓lnR, ↓tD4, rv, ↓addP1, m0, Bool.false_eq_true, Bool.and_self, Bool.or_self, Bool.and_true, Bool.and_false, Bool.or_true, Bool.or_false, Bool.true_and, Bool.false_and, Bool.true_or, Bool.false_or]
theorem mb_let (h : lettersB L = false) : machB L rows g = false := by unfold machB; rw [h]; rfl
theorem mb_len (h : ¬ (1 ≤ rows.length ∧ rows.length ≤ 8)) : machB L rows g = false := by
  unfold machB
  by_cases q : 1 ≤ rows.length
  · rw [decide_eq_false (show ¬ (rows.length : Int) ≤ 8 by omega)]; simp
  · rw [decide_eq_false (show ¬ (1 : Int) ≤ (rows.length : Int) by omega)]; simp
theorem mb_row {r : List Int} (m : r ∈ rows) (h : rowB L.length rows.length r = false) : machB L rows g = false := by
  have : rows.all (rowB L.length rows.length) = false := List.all_eq_false.mpr ⟨r, m, by rw [h]; decide⟩
  unfold machB
  rw [this]; simp
theorem mb_room {x : Int} (m : x ∈ g) (h : roomB rows.length x = false) : machB L rows g = false := by
  have : g.all (roomB rows.length) = false := List.all_eq_false.mpr ⟨x, m, by rw [h]; decide⟩
  unfold machB
  rw [this]; simp
theorem mb_up {i : Nat} (hi : i + 1 < g.length) (h : g.getD (i + 1) 0 ≤ g.getD i 0) : machB L rows g = false := by
  have : (List.range (g.length - 1)).all (upB g) = false := List.all_eq_false.mpr ⟨i, List.mem_range.mpr (by omega), by unfold upB; rw [decide_eq_false (by omega)]; decide⟩
  unfold machB
  rw [this]; simp
theorem rowB_len {m n : Nat} {r : List Int} (h : r.length ≠ m) : rowB m n r = false := by unfold rowB; rw [decide_eq_false h]; rfl
theorem rowB_in {m n : Nat} {r : List Int} {x : Int} (mx : x ∈ r) (h : roomB n x = false) : rowB m n r = false := by
  have : r.all (roomB n) = false := List.all_eq_false.mpr ⟨x, mx, by rw [h]; decide⟩
  unfold rowB
  rw [this]; simp
theorem roomB_n {n : Nat} : roomB n (n : Int) = false := by unfold roomB; rw [decide_eq_false (show ¬ (n : Int) < (n : Int) by omega)]; simp
theorem roomB_m {n : Nat} : roomB n (-1) = false := by unfold roomB; rw [decide_eq_false (show ¬ (0 : Int) ≤ -1 by omega)]; rfl
theorem none_no : wordB "none" = false := by decide +kernel
/-- all that the law makes of a machine -/
abbrev allV (L : List Str) (rows : List (List Int)) (g : List Int) (a j : Nat) (row r1 r2 : List Int) (m1 m2 W : List (List Int)) (L1 L2 F1 : List Str) : List Mt :=
  (([(L, [], []), (L, rows ++ W, g)] : List Mt) ++ [r1 ++ [(rows.length : Int)] ++ r2, r1 ++ [-1] ++ r2, row ++ [0], r1 ++ r2].map fun one => (L, m1 ++ [one] ++ m2, g)) ++ ((othersI rows g a).map fun o => (L, rows, o)) ++ [([], rows, g), (L1 ++ [("none" : Str)] ++ L2, rows, g), (L ++ F1, rows, g)]
theorem bad_all {r1 r2 : List Int} {m1 m2 W f1 : List (List Int)} {L1 L2 F1 : List Str} (M : okMach L rows g) (S : Sp4 L rows g a j row r1 r2 m1 m2 W f1 L1 L2 F1) : ∀ v ∈ allV L rows g a j row r1 r2 m1 m2 W L1 L2 F1, condB rows g v = false → machB v.1 v.2.1 v.2.2 = false := by
  obtain ⟨ha, hj, hg, er, lr, s1, s2, t1, t2, ef, eW, u1, u2, eF⟩ := S
  have lm1 : m1.length = a := by rw [t1, List.length_take]; omega
  have lm2 : m2.length = rows.length - (a + 1) := by rw [t2, List.length_drop]
  have hrow : row.length = L.length := by
    rw [er, List.getD_eq_getElem?_getD, List.getElem?_eq_getElem ha.1]
    exact (M.row _ (List.getElem_mem _)).1
  have lr1 : r1.length = j := by rw [s1, List.length_take]; omega
  have lr2 : r2.length = L.length - (j + 1) := by rw [s2, List.length_drop]; omega
  have lW : W.length = 9 - rows.length := by rw [eW, List.length_replicate]
  have lL1 : L1.length = j := by rw [u1, List.length_take]; omega
  have lone : ∀ one : List Int, (m1 ++ [one] ++ m2).length = rows.length := fun one => by rw [List.length_append, List.length_append, List.length_singleton]; omega
  have inn : ∀ one : List Int, one ∈ m1 ++ [one] ++ m2 := fun one => by simp
  intro v m hc
  rcases List.mem_append.mp m with m | m
  · rcases List.mem_append.mp m with m | m
    · rcases List.mem_append.mp m with m | m
      · simp only [List.mem_cons, List.not_mem_nil, or_false] at m
        rcases m with rfl | rfl
        · exact mb_len (by simp)
        · exact mb_len (by show ¬ (1 ≤ (rows ++ W).length ∧ (rows ++ W).length ≤ 8); rw [List.length_append]; omega)
      · obtain ⟨one, mo, rfl⟩ := List.mem_map.mp m
        refine mb_row (inn one) ?_
        show rowB L.length (m1 ++ [one] ++ m2).length one = false
        rw [lone]
        simp only [List.mem_cons, List.not_mem_nil, or_false] at mo
        rcases mo with rfl | rfl | rfl | rfl
        · exact rowB_in (x := (rows.length : Int)) (by simp) roomB_n
        · exact rowB_in (x := -1) (by simp) roomB_m
        · exact rowB_len (by rw [List.length_append, List.length_singleton]; omega)
        · exact rowB_len (by rw [List.length_append]; omega)
    · obtain ⟨o, mo, rfl⟩ := List.mem_map.mp m
      simp only [List.mem_cons, List.not_mem_nil, or_false] at mo
      rcases mo with rfl | rfl | rfl | rfl | rfl | rfl | rfl
      · exact mb_room (x := (rows.length : Int)) (by simp) roomB_n
      · exact mb_room (x := -1) (by simp) roomB_m
      · exact mb_up (i := 0) (by simp) (by simp)
      · exact mb_room (x := (rows.length : Int)) (by simp) roomB_n
      · exact mb_up (i := 0) (by simp) (by simp)
      · exact mb_up (i := 0) (by simp) (by simp)
      · cases g with
        | nil =>
          have : condB rows [] (L, rows, ([] : List Int).reverse ++ [0]) = true := by
            unfold condB
            rw [decide_eq_true (show ((L, rows, ([] : List Int).reverse ++ [0]) : Mt).2.2 = [0] from rfl), decide_eq_true (show ((L, rows, ([] : List Int).reverse ++ [0]) : Mt).2.2 = ([] : List Int).reverse ++ [0] from rfl)]
            simp
          rw [this] at hc
          cases hc
        | cons x t =>
          have hx := (M.rooms x List.mem_cons_self).1
          have e1 : (((x :: t).reverse ++ [0] : List Int)).getD t.length 0 = x := by simp [List.getD_eq_getElem?_getD]
          have e2 : (((x :: t).reverse ++ [0] : List Int)).getD (t.length + 1) 0 = 0 := by simp [List.getD_eq_getElem?_getD]
          exact mb_up (i := t.length) (by show t.length + 1 < ((x :: t).reverse ++ [0]).length; simp) (by show (((x :: t).reverse ++ [0] : List Int)).getD (t.length + 1) 0 ≤ (((x :: t).reverse ++ [0] : List Int)).getD t.length 0; rw [e1, e2]; exact hx)
  · simp only [List.mem_cons, List.not_mem_nil, or_false] at m
    rcases m with rfl | rfl | rfl
    · exact mb_let rfl
    · refine mb_let (lettersB_bad (i := j) (by show j < (L1 ++ [("none" : Str)] ++ L2).length; rw [List.length_append, List.length_append, List.length_singleton]; omega) ?_)
      have e : (L1 ++ [("none" : Str)] ++ L2).getD j "" = "none" := by
        rw [List.getD_eq_getElem?_getD, List.append_assoc, List.getElem?_append_right (by omega), lL1, Nat.sub_self]
        rfl
      show oneB (L1 ++ [("none" : Str)] ++ L2) j = false
      unfold oneB
      rw [e, none_no]
      rfl
    · cases L with
      | nil => have := hj.1; simp at this
      | cons x l =>
        have e3 : F1 = [x] := by rw [eF]; rfl
        subst e3
        refine mb_let (lettersB_bad (i := (x :: l).length) (by show (x :: l).length < (x :: l ++ [x]).length; simp) ?_)
        show oneB (x :: l ++ [x]) (x :: l).length = false
        unfold oneB
        have e : (x :: l ++ [x]).getD (x :: l).length "" = x := by simp [List.getD_eq_getElem?_getD]
        have e2 : (x :: l ++ [x]).take (x :: l).length = x :: l := by rw [List.take_left']; rfl
        rw [e, e2, decide_eq_true List.mem_cons_self]
        simp
end
end CS
namespace CS
open PySem PySem.Spec PyProof.Rows L2 DL EV
local macro_rules | `(tactic| walk_at "side") => `(tactic| first | omega | (simp only [List.length_cons, List.length_nil, List.length_map, List.length_append, List.length_range, PySem.sizeLine_eq]; omega) | assumption | (simp; done))
theorem spoilt_eq {N : List Int} {k : Int} {L : List Str} {rows : List (List Int)} {g : List Int} (G : Good N) (M : okMach L rows g) (hL : 1 ≤ L.length ∧ L.length ≤ 4) (hw : ∀ x ∈ L, x.length ≤ 8) (h0 : 0 ≤ k) (h1 : k + 20 ≤ KMax) : ∃ v : Mt, machB v.1 v.2.1 v.2.2 = false ∧ (∀ x ∈ v.1, x.length ≤ sizeLine) ∧ v.2.2.length ≤ 1000 ∧ f_l_spoilt (stAt N k) [mD L rows g] = some (.dat (mT v), stAt N (k + 3)) := by
  have hr := M.len
  have hg := M.few
  have a0 := nxt_lo (N := N) (k := k) (many := (rows.length : Nat)) (by omega)
  have a1 := nxt_hi (N := N) (k := k) (many := (rows.length : Nat)) (by omega)
  have b0 := nxt_lo (N := N) (k := k + 1) (many := (L.length : Nat)) (by omega)
  have b1 := nxt_hi (N := N) (k := k + 1) (many := (L.length : Nat)) (by omega)
  obtain ⟨a, ha⟩ : ∃ a : Nat, nxt N k (rows.length : Nat) = (a : Int) := ⟨(nxt N k (rows.length : Nat)).toNat, by omega⟩
  obtain ⟨j, hj⟩ : ∃ j : Nat, nxt N (k + 1) (L.length : Nat) = (j : Int) := ⟨(nxt N (k + 1) (L.length : Nat)).toNat, by omega⟩
  have K1 : ∀ {β : Type} (kv : Vl → List D → Option β), cKS f_l_next (stAt N k) [.int (rows.length : Nat)] kv = kv (.d (.int (a : Nat))) (stAt N (k + 1)) := fun kv => by rw [nextK G h0 (by omega) (by omega), ha]
  have K2 : ∀ {β : Type} (kv : Vl → List D → Option β), cKS f_l_next (stAt N (k + 1)) [.int (L.length : Nat)] kv = kv (.d (.int (j : Nat))) (stAt N (k + 2)) := fun kv => by rw [nextK G (by omega) (by omega) (by omega), hj, show k + 1 + 1 = k + 2 by omega]
  rw [ha] at a0 a1
  rw [hj] at b0 b1
  have hal : a < rows.length := by omega
  have erow : rows.getD a [] = rows[a] := by rw [List.getD_eq_getElem?_getD, List.getElem?_eq_getElem hal]; rfl
  have lrow : (rows.getD a []).length ≤ 4 := by rw [erow, (M.row _ (List.getElem_mem _)).1]; exact hL.2
  have S : Sp4 L rows g a j (rows.getD a []) ((rows.getD a []).take j) ((rows.getD a []).drop (j + 1)) (rows.take a) (rows.drop (a + 1)) (List.replicate (9 - rows.length) (rows.getD 0 [])) (rows.take 1) (L.take j) (L.drop (j + 1)) (L.take 1) := ⟨⟨hal, hr.2⟩, ⟨by omega, hL.2⟩, hg, rfl, lrow, rfl, rfl, rfl, rfl, rfl, rfl, rfl, rfl, rfl⟩
  have IR : ∀ {β : Type} (kz : Rz → Option β), oZ .ix (.tuple (rows.map tupI)) (.int (a : Nat)) kz = kz (.d (tupI (rows.getD a []))) := fun kz => by rw [oZ_ixT, aI_row (by omega) (by omega), Int.toNat_natCast]
  have lnL : ∀ {β : Type} (kz : Rz → Option β), cZ .len [.tuple (L.map .str)] kz = kz (.d (.int (L.length : Nat))) := fun kz => by rw [cZ_lenTm]
  have lnR : ∀ {β : Type} (kz : Rz → Option β), cZ .len [.tuple (rows.map tupI)] kz = kz (.d (.int (rows.length : Nat))) := fun kz => by rw [cZ_lenTm]
  have un : mD L rows g = .tuple [.tuple (L.map .str), .tuple (rows.map tupI), tupI g] := rfl
  have P0 : ∀ {β : Type} (kn : Rho → Option β) (ka : Out → Option β), xS [0] c_l_spoilt [.own (.lst (stAt N k)), .dat (mD L rows g), .no, .no, .no, .no, .no, .no, .no, .no, .no, .no, .no] kn ka = xS [0] rSP1 (spR N (k + 2) L rows g a j (rows.getD a []) .no .no .no .no) kn ka := fun kn ka => by
    simp (config := { implicitDefEqProofs := false }) (disch := walk_at "side") only [↓reduceIte, decide_eq_true_eq, decide_true, decide_false, Bool.not_true, Bool.not_false, Bool.false_eq_true, Int.reduceEq, Int.reduceLT, Int.reduceLE, Int.reduceNeg, Int.reduceToNat, ↓okI, ↓okI2, ↓aV_d, ↓aV_o, ↓aV_n, ↓aV_w, ↓dV_d, ↓dV_wD, ↓aV_wD, ↓dO_d, ↓kV_w, ↓xE_dinD, ↓xE_dninD, ↓xE_dgetD, ↓xE_fnv, ↓xE_callF, ↓xE_callE, ↓xE_isaT, ↓xE_dspb, ↓xI_ukd, ↓xS_retD, ↓xS_fzD, ↓fzKD_D, ↓fzKD_d, ↓dV_n, ↓dV_w, ↓gE_0, ↓gE_s, ↓eL_l, ↓eD_l, ↓eV_d, ↓eV_l, ↓nA_d, ↓nA_o, ↓iD_i, ↓bD_b, ↓kD_i, ↓kD_s, ↓zD_d, ↓vZ_d, ↓vZ_n, ↓sR_0, ↓sR_s, ↓sK_n, ↓sK_0, ↓lD_l, ↓sD_l, ↓sD_t, ↓tD_t, ↓dA_nil, ↓dA_d, ↓dN_nil, ↓dN_c, ↓oZ_addI, ↓oZ_addS, ↓oZ_addT, ↓oZ_addL, ↓oZ_sub, ↓oZ_mul, ↓oZ_mulT, ↓oZ_mulL, ↓oZ_fdiv, ↓oZ_mod, ↓oZ_pow, ↓oZ_eqI, ↓oZ_eqS, ↓oZ_neS, ↓oZ_neI, ↓oZ_lt, ↓oZ_le, ↓oZ_gt, ↓oZ_ge, ↓oZ_ixL, ↓oZ_ixT, ↓aI_0, ↓aI_1, ↓aI_2, ↓nI_0, ↓nI_1, ↓lS_0, ↓lS_s, ↓aI_int, ↓aI_str, ↓aI_row, ↓aI_b2, ↓aI_i1, ↓aI_i2, ↓aI_i3, ↓aI_i4, ↓aI_i5, ↓aI_i6, ↓oZ_abyz, ↓oZ_az, ↓cZ_lenLm, ↓cZ_lenTm, ↓cZ_lenP, ↓oZ_ixP, ↓sD_P, ↓cZ_lstP, ↓cZ_abs, ↓cZ_int, ↓cZ_intB, ↓cZ_tup, ↓cZ_lstL, ↓cZ_lstT, ↓cZ_all, ↓cZ_any, ↓cZ_max2, ↓cZ_min2, ↓cZ_sum, ↓cZ_sorted, ↓xE_int, ↓xE_bl, ↓xE_str, ↓xE_non, ↓xE_var, ↓xE_op, ↓xE_neg, ↓xE_nt, ↓xE_an, ↓xE_or, ↓xE_ch, ↓xE_isN, ↓xE_notN, ↓xE_ife, ↓xE_tup, ↓xE_lst, ↓xE_sl, ↓sl1_T, ↓sl1_L, ↓xE_cb, ↓xE_isa, ↓xE_call, ↓xE_callX, ↓xE_lget, ↓xE_srs, xE_revT, ↓xE_revL, ↓xE_sw, ↓s2D_s, ↓xB_sif, ↓xE_dget2, ↓xT_tl, ↓xI_ky, ↓xS_lk0, ↓xR_x, ↓xR_call, ↓xR_lst, ↓xR_e, ↓xB_ret, ↓xB_iff, ↓xS_tryK, ↓xS_never, ↓xS_mv0, ↓xS_aug, ↓eF_l, noF_nil, noF_dat, noF_no, noF_lst, noF_dK, ↓sK_j, ↓xE_callS, ↓xE_lc, ↓xE_lc2, ↓xE_callL, ↓rvA_d, ↓tw2_t, ↓sN_0, ↓sN_s, ↓xE_lrg, ↓xE_trg, ↓xE_pop, ↓xE_idxL, ↓sT_s, ↓xE_idxT, ↓xE_dget, ↓xE_din, ↓xE_dnin, ↓xE_dset, ↓xE_dspV, ↓xE_dspC, ↓xE_dspM, ↓tE_d, ↓xI_rng3, ↓xA_nil, ↓xA_cons, ↓xT_te, ↓xT_tb, ↓xT_nt, ↓xT_an, ↓xT_or, ↓xT_yes, ↓xT_lend, ↓xP_no, ↓xP_at, ↓xI_rng1, ↓xI_rng2, ↓xI_u, ↓xI_en, ↓xI_enl, ↓xG_nm, ↓xG_tup, ↓xGs_nil, ↓xGs_cons, ↓sV_d, ↓sV_n, ↓sV_w, ↓rV_d, ↓rV_n, ↓rV_w, ↓rV_o, ↓xS_set, ↓xS_asg, ↓xS_seti, ↓xS_app, ↓xS_newD, ↓xS_dput, ↓xS_drop, ↓xS_dropX, ↓xS_raise, ↓xS_tryC, ↓xS_ret, ↓xS_retN, ↓xS_iff, ↓xS_for, ↓xS_wh, ↓xS_brk, ↓xS_cont, ↓xS_nx, ↓xS_seq, ↓xS_fz, ↓fzK_l, ↓fzK_d, ↓fzK_n, ↓fzK_D, ↓kS_nx, ↓kS_rt, ↓kS_bk, ↓kS_ct, ↓out1_rt, ↓out2_rt, ↓xE_allIn, ↓xE_inC, ↓xE_isB, ↓strD_s, ↓u_rSP0, un, ↓lnR, ↓lnL, ↓K1, ↓K2, ↓IR]
    rfl
  obtain ⟨e7, P4⟩ := part4 (N := N) (k := k + 2) (β := RetV × List D) (kn := fun ρ => gE ρ 0 fun e => eL e fun s => some (RetV.dat .none, s)) (ka := out2) (base := ([(L, [], []), (L, rows ++ List.replicate (9 - rows.length) (rows.getD 0 []), g)] : List Mt) ++ [(rows.getD a []).take j ++ [(rows.length : Int)] ++ (rows.getD a []).drop (j + 1), (rows.getD a []).take j ++ [-1] ++ (rows.getD a []).drop (j + 1), rows.getD a [] ++ [0], (rows.getD a []).take j ++ (rows.getD a []).drop (j + 1)].map fun one => (L, rows.take a ++ [one] ++ rows.drop (a + 1), g)) (e5 := .dat (.list ([(rows.getD a []).take j ++ [(rows.length : Int)] ++ (rows.getD a []).drop (j + 1), (rows.getD a []).take j ++ [-1] ++ (rows.getD a []).drop (j + 1), rows.getD a [] ++ [0], (rows.getD a []).take j ++ (rows.getD a []).drop (j + 1)].map tupI))) S (by simp)
  have lV : (allV L rows g a j (rows.getD a []) ((rows.getD a []).take j) ((rows.getD a []).drop (j + 1)) (rows.take a) (rows.drop (a + 1)) (List.replicate (9 - rows.length) (rows.getD 0 [])) (L.take j) (L.drop (j + 1)) (L.take 1)).length = 16 := by simp
  obtain ⟨v, mv, P6⟩ := part6 (N := N) (k := k + 2) (L := L) (rows := rows) (g := g) (row := rows.getD a []) (a := a) (j := j) (β := RetV × List D) (kn := fun ρ => gE ρ 0 fun e => eL e fun s => some (RetV.dat .none, s)) (ka := out2) (V := allV L rows g a j (rows.getD a []) ((rows.getD a []).take j) ((rows.getD a []).drop (j + 1)) (rows.take a) (rows.drop (a + 1)) (List.replicate (9 - rows.length) (rows.getD 0 [])) (L.take j) (L.drop (j + 1)) (L.take 1)) (e5 := .dat (.list ([(rows.getD a []).take j ++ [(rows.length : Int)] ++ (rows.getD a []).drop (j + 1), (rows.getD a []).take j ++ [-1] ++ (rows.getD a []).drop (j + 1), rows.getD a [] ++ [0], (rows.getD a []).take j ++ (rows.getD a []).drop (j + 1)].map tupI))) (e7 := e7) G (by omega) (by omega) (by rw [lV]; omega)
  have words : ∀ x ∈ v.1, x.length ≤ 8 := by
    rcases List.mem_append.mp mv with m | m
    · rcases List.mem_append.mp m with m | m
      · rcases List.mem_append.mp m with m | m
        · simp only [List.mem_cons, List.not_mem_nil, or_false] at m
          rcases m with rfl | rfl <;> exact hw
        · obtain ⟨_, _, rfl⟩ := List.mem_map.mp m
          exact hw
      · obtain ⟨_, _, rfl⟩ := List.mem_map.mp m
        exact hw
    · simp only [List.mem_cons, List.not_mem_nil, or_false] at m
      rcases m with rfl | rfl | rfl
      · intro x mx; cases mx
      · intro x mx
        rcases List.mem_append.mp mx with mx | mx
        · rcases List.mem_append.mp mx with mx | mx
          · exact hw x (List.mem_of_mem_take mx)
          · rw [List.mem_singleton.mp mx]; decide +kernel
        · exact hw x (List.mem_of_mem_drop mx)
      · intro x mx
        rcases List.mem_append.mp mx with mx | mx
        · exact hw x mx
        · exact hw x (List.mem_of_mem_take mx)
  have rooms : v.2.2.length ≤ 1000 := by
    rcases List.mem_append.mp mv with m | m
    · rcases List.mem_append.mp m with m | m
      · rcases List.mem_append.mp m with m | m
        · simp only [List.mem_cons, List.not_mem_nil, or_false] at m
          rcases m with rfl | rfl
          · simp
          · show g.length ≤ 1000; omega
        · obtain ⟨_, _, rfl⟩ := List.mem_map.mp m
          show g.length ≤ 1000; omega
      · obtain ⟨o, mo, rfl⟩ := List.mem_map.mp m
        simp only [List.mem_cons, List.not_mem_nil, or_false] at mo
        show o.length ≤ 1000
        rcases mo with rfl | rfl | rfl | rfl | rfl | rfl | rfl <;> simp <;> omega
    · simp only [List.mem_cons, List.not_mem_nil, or_false] at m
      rcases m with rfl | rfl | rfl <;> (show g.length ≤ 1000; omega)
  have fin : f_l_spoilt (stAt N k) [mD L rows g] = some (.dat (mT (if condB rows g v then (L, [], []) else v)), stAt N (k + 3)) := by
    rw [x_l_spoilt, P0, part1 S, part2 S, part3 S (by simp) (by simp), P4, part5 S (by simp), P6, part7 hg, show k + 2 + 1 = k + 3 by omega]
  cases hc : condB rows g v with
  | true =>
    rw [hc] at fin
    exact ⟨(L, [], []), mb_len (by simp), fun x m => by have := hw x m; rw [sizeLine_eq]; omega, by simp, fin⟩
  | false =>
    rw [hc] at fin
    exact ⟨v, bad_all M S v mv hc, fun x m => by have := words x m; rw [sizeLine_eq]; omega, rooms, fin⟩
theorem refused_eq {X : Cl} (hN : [X.se, X.na, X.tl, X.mi, X.bp, X.bf, X.br].Nodup) {v : Mt} (hb : machB v.1 v.2.1 v.2.2 = false) (hw : ∀ x ∈ v.1, x.length ≤ sizeLine) (hg : v.2.2.length ≤ 1000) : f_l_refused X [mT v] = some (.dat (.bool true)) := by
  have J := check_machine_eq (X := X) (L := v.1) (rows := v.2.1) (g := v.2.2) hw hg
  rw [hb] at J
  simp only [List.nodup_cons, List.mem_cons, List.not_mem_nil, or_false, not_or, not_false_eq_true, List.nodup_nil, and_true] at hN
  obtain ⟨⟨a1, a2, a3, a4, a5, a6⟩, ⟨b1, b2, b3, b4, b5⟩, _⟩ := hN
  have hs : evHs X.se X.na [(X.na, Hx.tst (.an (.one X.se) (.nt (.any [X.tl, X.mi, X.bp, X.bf, X.br]))))] = some (.bool true) := by
    simp [evHs, evHx, evZ, sub, a1, a2, a3, a4, a5, a6, b1, b2, b3, b4, b5, Ne.symm a1, Ne.symm a2, Ne.symm a3, Ne.symm a4, Ne.symm a5, Ne.symm a6]
  have J' : ∀ {β : Type} (kd : D → Option β) (kx : Addr → Option β), cX (f_check_machine X) [mT v] kd kx = kx X.na := fun kd kx => cX_ex J
  have hh : ∀ {β : Type} {hs : List (Addr × Hx)} {d : D} {ka : Out → Option β} {ρ : Rho}, evHs X.se X.na hs = some d → 1 < ρ.length → hN X.se [X.na, X.tl, X.mi, X.bp, X.bf, X.br] hs 1 [] ka X.na ρ = ka (.rt (ρ.set 1 .no) (.dat d)) := fun {β hs d ka ρ} h hl => by
    unfold hN
    rw [if_pos ⟨by simp, hl, by simp⟩, h]
    rfl
  rw [x_l_refused]
  simp (config := { implicitDefEqProofs := false }) (disch := walk_at "side") only [↓reduceIte, decide_eq_true_eq, decide_true, decide_false, Bool.not_true, Bool.not_false, Bool.false_eq_true, Int.reduceEq, Int.reduceLT, Int.reduceLE, Int.reduceNeg, Int.reduceToNat, ↓okI, ↓okI2, ↓aV_d, ↓aV_o, ↓aV_n, ↓aV_w, ↓dV_d, ↓dV_wD, ↓aV_wD, ↓dO_d, ↓kV_w, ↓xE_dinD, ↓xE_dninD, ↓xE_dgetD, ↓xE_fnv, ↓xE_callF, ↓xE_callE, ↓xE_isaT, ↓xE_dspb, ↓xI_ukd, ↓xS_retD, ↓xS_fzD, ↓fzKD_D, ↓fzKD_d, ↓dV_n, ↓dV_w, ↓gE_0, ↓gE_s, ↓eL_l, ↓eD_l, ↓eV_d, ↓eV_l, ↓nA_d, ↓nA_o, ↓iD_i, ↓bD_b, ↓kD_i, ↓kD_s, ↓zD_d, ↓vZ_d, ↓vZ_n, ↓sR_0, ↓sR_s, ↓sK_n, ↓sK_0, ↓lD_l, ↓sD_l, ↓sD_t, ↓tD_t, ↓dA_nil, ↓dA_d, ↓dN_nil, ↓dN_c, ↓oZ_addI, ↓oZ_addS, ↓oZ_addT, ↓oZ_addL, ↓oZ_sub, ↓oZ_mul, ↓oZ_mulT, ↓oZ_mulL, ↓oZ_fdiv, ↓oZ_mod, ↓oZ_pow, ↓oZ_eqI, ↓oZ_eqS, ↓oZ_neS, ↓oZ_neI, ↓oZ_lt, ↓oZ_le, ↓oZ_gt, ↓oZ_ge, ↓oZ_ixL, ↓oZ_ixT, ↓aI_0, ↓aI_1, ↓aI_2, ↓nI_0, ↓nI_1, ↓lS_0, ↓lS_s, ↓aI_int, ↓aI_str, ↓aI_row, ↓aI_b2, ↓aI_i1, ↓aI_i2, ↓aI_i3, ↓aI_i4, ↓aI_i5, ↓aI_i6, ↓oZ_abyz, ↓oZ_az, ↓cZ_lenLm, ↓cZ_lenTm, ↓cZ_lenP, ↓oZ_ixP, ↓sD_P, ↓cZ_lstP, ↓cZ_abs, ↓cZ_int, ↓cZ_intB, ↓cZ_tup, ↓cZ_lstL, ↓cZ_lstT, ↓cZ_all, ↓cZ_any, ↓cZ_max2, ↓cZ_min2, ↓cZ_sum, ↓cZ_sorted, ↓xE_int, ↓xE_bl, ↓xE_str, ↓xE_non, ↓xE_var, ↓xE_op, ↓xE_neg, ↓xE_nt, ↓xE_an, ↓xE_or, ↓xE_ch, ↓xE_isN, ↓xE_notN, ↓xE_ife, ↓xE_tup, ↓xE_lst, ↓xE_sl, ↓sl1_T, ↓sl1_L, ↓xE_cb, ↓xE_isa, ↓xE_call, ↓xE_callX, ↓xE_lget, ↓xE_srs, xE_revT, ↓xE_revL, ↓xE_sw, ↓s2D_s, ↓xB_sif, ↓xE_dget2, ↓xT_tl, ↓xI_ky, ↓xS_lk0, ↓xR_x, ↓xR_call, ↓xR_lst, ↓xR_e, ↓xB_ret, ↓xB_iff, ↓xS_tryK, ↓xS_never, ↓xS_mv0, ↓xS_aug, ↓eF_l, noF_nil, noF_dat, noF_no, noF_lst, noF_dK, ↓sK_j, ↓xE_callS, ↓xE_lc, ↓xE_lc2, ↓xE_callL, ↓rvA_d, ↓tw2_t, ↓sN_0, ↓sN_s, ↓xE_lrg, ↓xE_trg, ↓xE_pop, ↓xE_idxL, ↓sT_s, ↓xE_idxT, ↓xE_dget, ↓xE_din, ↓xE_dnin, ↓xE_dset, ↓xE_dspV, ↓xE_dspC, ↓xE_dspM, ↓tE_d, ↓xI_rng3, ↓xA_nil, ↓xA_cons, ↓xT_te, ↓xT_tb, ↓xT_nt, ↓xT_an, ↓xT_or, ↓xT_yes, ↓xT_lend, ↓xP_no, ↓xP_at, ↓xI_rng1, ↓xI_rng2, ↓xI_u, ↓xI_en, ↓xI_enl, ↓xG_nm, ↓xG_tup, ↓xGs_nil, ↓xGs_cons, ↓sV_d, ↓sV_n, ↓sV_w, ↓rV_d, ↓rV_n, ↓rV_w, ↓rV_o, ↓xS_set, ↓xS_asg, ↓xS_seti, ↓xS_app, ↓xS_newD, ↓xS_dput, ↓xS_drop, ↓xS_dropX, ↓xS_raise, ↓xS_tryC, ↓xS_ret, ↓xS_retN, ↓xS_iff, ↓xS_for, ↓xS_wh, ↓xS_brk, ↓xS_cont, ↓xS_nx, ↓xS_seq, ↓xS_fz, ↓fzK_l, ↓fzK_d, ↓fzK_n, ↓fzK_D, ↓kS_nx, ↓kS_rt, ↓kS_bk, ↓kS_ct, ↓out1_rt, ↓out2_rt, ↓xE_allIn, ↓xE_inC, ↓xE_isB, ↓strD_s, ↓u_c_l_refused, ↓xS_tryN, ↓xB_dr, ↓J', ↓hh hs]
end CS
namespace CS
open PySem PySem.Spec PyProof.Rows L2 DL EV
local macro_rules | `(tactic| walk_at "side") => `(tactic| first | omega | (simp only [List.length_cons, List.length_nil, List.length_map, List.length_append, List.length_range, PySem.sizeLine_eq]; omega) | assumption | (simp; done))
section
variable {N : List Int} {L : List Str} {rows : List (List Int)} {g : List Int} {X : Cl}
theorem neBY {β : Type} {a b : Bool} {kz : Rz → Option β} : oZ .ne (.bool a) (.bool b) kz = kz (.d (.bool (!(a == b)))) := by cases a <;> cases b <;> rfl
/-- one log -/
theorem turn12 {k : Int} {x : D} {e0 e3 e5 e6 e7 e8 : Ent} (G : Good N) (M : okMach L rows g) (hL : 1 ≤ L.length ∧ L.length ≤ 4) (h0 : 0 ≤ k) (h1 : k + 3000 ≤ KMax) : ∃ k' f6 f7 f8, k ≤ k' ∧ k' ≤ k + 1010 ∧ trn [] (.nm 5) (b_law_12_1 X) x [e0, .own (.lst (stAt N k)), .dat (.tuple (L.map .str)), e3, .dat (mD L rows g), e5, e6, e7, e8] = some (.nx [e0, .own (.lst (stAt N k')), .dat (.tuple (L.map .str)), e3, .dat (mD L rows g), .dat x, f6, f7, f8]) := by
  have hK : KMax = 1000000000 := rfl
  obtain ⟨n6, en6⟩ : ∃ n, nxt N k 6 = n := ⟨_, rfl⟩
  obtain ⟨n60, en60⟩ : ∃ n, nxt N (k + 1) 60 = n := ⟨_, rfl⟩
  obtain ⟨n40, en40⟩ : ∃ n, nxt N (k + 2) 40 = n := ⟨_, rfl⟩
  obtain ⟨n2, en2⟩ : ∃ n, nxt N (k + 3) 2 = n := ⟨_, rfl⟩
  have a6 := nxt_lo (N := N) (k := k) (many := 6) (by decide)
  have b6 := nxt_hi (N := N) (k := k) (many := 6) (by decide)
  have a60 := nxt_lo (N := N) (k := k + 1) (many := 60) (by decide)
  have b60 := nxt_hi (N := N) (k := k + 1) (many := 60) (by decide)
  have a2 := nxt_lo (N := N) (k := k + 3) (many := 2) (by decide)
  have b2 := nxt_hi (N := N) (k := k + 3) (many := 2) (by decide)
  have K6 : ∀ {β : Type} (kv : Vl → List D → Option β), cKS f_l_next (stAt N k) [.int 6] kv = kv (.d (.int n6)) (stAt N (k + 1)) := fun kv => by rw [nextK G h0 (by omega) (by omega), en6]
  have K60 : ∀ {β : Type} (kv : Vl → List D → Option β), cKS f_l_next (stAt N (k + 1)) [.int 60] kv = kv (.d (.int n60)) (stAt N (k + 2)) := fun kv => by rw [nextK G (by omega) (by omega) (by omega), en60, show k + 1 + 1 = k + 2 by omega]
  have K40 : ∀ {β : Type} (kv : Vl → List D → Option β), cKS f_l_next (stAt N (k + 2)) [.int 40] kv = kv (.d (.int n40)) (stAt N (k + 3)) := fun kv => by rw [nextK G (by omega) (by omega) (by omega), en40, show k + 2 + 1 = k + 3 by omega]
  have K2 : ∀ {β : Type} (kv : Vl → List D → Option β), cKS f_l_next (stAt N (k + 3)) [.int 2] kv = kv (.d (.int n2)) (stAt N (k + 4)) := fun kv => by rw [nextK G (by omega) (by omega) (by omega), en2, show k + 3 + 1 = k + 4 by omega]
  rw [en6] at a6 b6
  rw [en60] at a60 b60
  rw [en2] at a2 b2
  obtain ⟨b, hb⟩ : ∃ b, decide (n40 = 0) = b := ⟨_, rfl⟩
  obtain ⟨c, hc⟩ : ∃ c : Int, (if b = true then (1 : Int) else 0) = c := ⟨_, rfl⟩
  have hc' : 0 ≤ c ∧ c ≤ 1 := by rw [← hc]; split <;> omega
  obtain ⟨m, hm, em⟩ : ∃ m : Nat, m ≤ 1000 ∧ [n6, n60, 1000].getD (c + n2).toNat 0 = (m : Int) := by
    have hq : c + n2 = 0 ∨ c + n2 = 1 ∨ c + n2 = 2 := by omega
    rcases hq with q | q | q
    · exact ⟨n6.toNat, by omega, by rw [q]; show n6 = _; omega⟩
    · exact ⟨n60.toNat, by omega, by rw [q]; show n60 = _; omega⟩
    · exact ⟨1000, by omega, by rw [q]; rfl⟩
  obtain ⟨log, hx, hl, KL⟩ := log3_eq (N := N) (k := k + 4) (n := m) G hL (by omega) (by omega) hm
  have KL' : ∀ {β : Type} (kv : Vl → List D → Option β), cKS f_l_log_3 (stAt N (k + 4)) [.tuple (L.map .str), .int (m : Nat)] kv = kv (.d (.tuple (log.map .str))) (stAt N (k + 4 + (m : Nat))) := fun kv => cKS_s KL
  have KB : ∀ {β : Type} (kv : Vl → Option β), cK f_l_behind [mD L rows g, .tuple (log.map .str)] kv = kv (.d (.int (behindI L rows log))) := fun kv => cK_s (l_behind_eq M hx)
  have KR : ∀ {β : Type} (kv : Vl → Option β), cK f_room_behind [mD L rows g, .tuple (log.map .str)] kv = kv (.d (.int (behindI L rows log))) := fun kv => cK_s (room_behind_eq M hx)
  have KT : ∀ {β : Type} (kv : Vl → Option β), cK f_lets [mD L rows g, .tuple (log.map .str)] kv = kv (.d (.bool (decide (behindI L rows log ∈ g)))) := fun kv => cK_s (lets_eq M hx)
  have bo := behind_ok M hx
  have hr := M.len
  have KS : ∀ {β : Type} (kv : Vl → Option β), cK f_l_same [.int (behindI L rows log), .int (behindI L rows log)] kv = kv (.d (.bool true)) := fun kv => cK_s (l_same_eq ⟨bo.1, by omega⟩)
  have fl : (g.map PyData.int).all flatD = true := by rw [List.all_map]; exact List.all_eq_true.mpr fun _ _ => rfl
  have I2 : ∀ {β : Type} (kz : Rz → Option β), oZ .ix (mD L rows g) (.int 2) kz = kz (.d (tupI g)) := fun kz => rfl
  have IN : ∀ {β : Type} (v : Int) (kz : Rz → Option β), oZ .isIn (.int v) (tupI g) kz = kz (.d (.bool (decide (v ∈ g)))) := fun v kz => by
    unfold tupI
    rw [oZ_inT (d := .int v) rfl fl, inD_ints]
  generalize behindI L rows log = r at *
  obtain ⟨t, ht⟩ : ∃ t, decide (r ∈ g) = t := ⟨_, rfl⟩
  rw [ht] at KT
  refine ⟨k + 4 + (m : Nat), .dat (.tuple (log.map .str)), .dat (.int r), .dat (.bool t), by omega, by omega, ?_⟩
  rw [trn_x]
  cases t <;> simp (config := { implicitDefEqProofs := false }) (disch := walk_at "side") only [↓reduceIte, decide_eq_true_eq, decide_true, decide_false, Bool.not_true, Bool.not_false, Bool.false_eq_true, Int.reduceEq, Int.reduceLT, Int.reduceLE, Int.reduceNeg, Int.reduceToNat, ↓okI, ↓okI2, ↓aV_d, ↓aV_o, ↓aV_n, ↓aV_w, ↓dV_d, ↓dV_wD, ↓aV_wD, ↓dO_d, ↓kV_w, ↓xE_dinD, ↓xE_dninD, ↓xE_dgetD, ↓xE_fnv, ↓xE_callF, ↓xE_callE, ↓xE_isaT, ↓xE_dspb, ↓xI_ukd, ↓xS_retD, ↓xS_fzD, ↓fzKD_D, ↓fzKD_d, ↓dV_n, ↓dV_w, ↓gE_0, ↓gE_s, ↓eL_l, ↓eD_l, ↓eV_d, ↓eV_l, ↓nA_d, ↓nA_o, ↓iD_i, ↓bD_b, ↓kD_i, ↓kD_s, ↓zD_d, ↓vZ_d, ↓vZ_n, ↓sR_0, ↓sR_s, ↓sK_n, ↓sK_0, ↓lD_l, ↓sD_l, ↓sD_t, ↓tD_t, ↓dA_nil, ↓dA_d, ↓dN_nil, ↓dN_c, ↓oZ_addI, ↓oZ_addS, ↓oZ_addT, ↓oZ_addL, ↓oZ_sub, ↓oZ_mul, ↓oZ_mulT, ↓oZ_mulL, ↓oZ_fdiv, ↓oZ_mod, ↓oZ_pow, ↓oZ_eqI, ↓oZ_eqS, ↓oZ_neS, ↓oZ_neI, ↓oZ_lt, ↓oZ_le, ↓oZ_gt, ↓oZ_ge, ↓oZ_ixL, ↓oZ_ixT, ↓aI_0, ↓aI_1, ↓aI_2, ↓nI_0, ↓nI_1, ↓lS_0, ↓lS_s, ↓aI_int, ↓aI_str, ↓aI_row, ↓aI_b2, ↓aI_i1, ↓aI_i2, ↓aI_i3, ↓aI_i4, ↓aI_i5, ↓aI_i6, ↓oZ_abyz, ↓oZ_az, ↓cZ_lenLm, ↓cZ_lenTm, ↓cZ_lenP, ↓oZ_ixP, ↓sD_P, ↓cZ_lstP, ↓cZ_abs, ↓cZ_int, ↓cZ_intB, ↓cZ_tup, ↓cZ_lstL, ↓cZ_lstT, ↓cZ_all, ↓cZ_any, ↓cZ_max2, ↓cZ_min2, ↓cZ_sum, ↓cZ_sorted, ↓xE_int, ↓xE_bl, ↓xE_str, ↓xE_non, ↓xE_var, ↓xE_op, ↓xE_neg, ↓xE_nt, ↓xE_an, ↓xE_or, ↓xE_ch, ↓xE_isN, ↓xE_notN, ↓xE_ife, ↓xE_tup, ↓xE_lst, ↓xE_sl, ↓sl1_T, ↓sl1_L, ↓xE_cb, ↓xE_isa, ↓xE_call, ↓xE_callX, ↓xE_lget, ↓xE_srs, xE_revT, ↓xE_revL, ↓xE_sw, ↓s2D_s, ↓xB_sif, ↓xE_dget2, ↓xT_tl, ↓xI_ky, ↓xS_lk0, ↓xR_x, ↓xR_call, ↓xR_lst, ↓xR_e, ↓xB_ret, ↓xB_iff, ↓xS_tryK, ↓xS_never, ↓xS_mv0, ↓xS_aug, ↓eF_l, noF_nil, noF_dat, noF_no, noF_lst, noF_dK, ↓sK_j, ↓xE_callS, ↓xE_lc, ↓xE_lc2, ↓xE_callL, ↓rvA_d, ↓tw2_t, ↓sN_0, ↓sN_s, ↓xE_lrg, ↓xE_trg, ↓xE_pop, ↓xE_idxL, ↓sT_s, ↓xE_idxT, ↓xE_dget, ↓xE_din, ↓xE_dnin, ↓xE_dset, ↓xE_dspV, ↓xE_dspC, ↓xE_dspM, ↓tE_d, ↓xI_rng3, ↓xA_nil, ↓xA_cons, ↓xT_te, ↓xT_tb, ↓xT_nt, ↓xT_an, ↓xT_or, ↓xT_yes, ↓xT_lend, ↓xP_no, ↓xP_at, ↓xI_rng1, ↓xI_rng2, ↓xI_u, ↓xI_en, ↓xI_enl, ↓xG_nm, ↓xG_tup, ↓xGs_nil, ↓xGs_cons, ↓sV_d, ↓sV_n, ↓sV_w, ↓rV_d, ↓rV_n, ↓rV_w, ↓rV_o, ↓xS_set, ↓xS_asg, ↓xS_seti, ↓xS_app, ↓xS_newD, ↓xS_dput, ↓xS_drop, ↓xS_dropX, ↓xS_raise, ↓xS_tryC, ↓xS_ret, ↓xS_retN, ↓xS_iff, ↓xS_for, ↓xS_wh, ↓xS_brk, ↓xS_cont, ↓xS_nx, ↓xS_seq, ↓xS_fz, ↓fzK_l, ↓fzK_d, ↓fzK_n, ↓fzK_D, ↓kS_nx, ↓kS_rt, ↓kS_bk, ↓kS_ct, ↓out1_rt, ↓out2_rt, ↓xE_allIn, ↓xE_inC, ↓xE_isB, ↓strD_s, ↓u_b_law_12_1, ↓K6, ↓K60, ↓K40, ↓K2, hb, hc, em, ↓KL', ↓KB, ↓KT, ↓KR, ↓KS, ↓I2, ↓IN, ht, ↓neBY, beq_self_eq_true, Bool.and_self, Bool.false_eq_true, Bool.not_true, Bool.not_false, Bool.and_false, Bool.false_and, reduceCtorEq]
/-- one machine -/
theorem turn12m {k : Int} {x : D} {e0 e3 e4 e5 e6 e7 e8 : Ent} (hN : [X.se, X.na, X.tl, X.mi, X.bp, X.bf, X.br].Nodup) (G : Good N) (nd : L.Nodup) (hW : ∀ x ∈ L, wordB x = true) (hw : ∀ x ∈ L, x.length ≤ 8) (hL : 1 ≤ L.length ∧ L.length ≤ 4) (h0 : 0 ≤ k) (h1 : k + 10000 ≤ KMax) : ∃ k' f4 f5 f6 f7 f8, k ≤ k' ∧ k' ≤ k + 4000 ∧ trn [] (.nm 3) (b_law_12_3 X) x [e0, .own (.lst (stAt N k)), .dat (.tuple (L.map .str)), e3, e4, e5, e6, e7, e8] = some (.nx [e0, .own (.lst (stAt N k')), .dat (.tuple (L.map .str)), .dat x, f4, f5, f6, f7, f8]) := by
  have hK : KMax = 1000000000 := rfl
  have a8 := nxt_lo (N := N) (k := k) (many := 8) (by decide)
  have b8 := nxt_hi (N := N) (k := k) (many := 8) (by decide)
  obtain ⟨n, hn⟩ : ∃ n : Nat, 1 + nxt N k 8 = (n : Int) := ⟨(1 + nxt N k 8).toNat, by omega⟩
  obtain ⟨n8, en8⟩ : ∃ n, nxt N k 8 = n := ⟨_, rfl⟩
  rw [en8] at hn a8 b8
  have K8 : ∀ {β : Type} (kv : Vl → List D → Option β), cKS f_l_next (stAt N k) [.int 8] kv = kv (.d (.int n8)) (stAt N (k + 1)) := fun kv => by rw [nextK G h0 (by omega) (by omega), en8]
  obtain ⟨rows, g, k1, ln, M, g1, g2, KM⟩ := machine2_eq (N := N) (k := k + 1) (n := n) G (by omega) (by omega) (by omega) hL
  have KM' : ∀ {β : Type} (kv : Vl → List D → Option β), cKS f_l_machine_2 (stAt N (k + 1)) [.tuple (L.map .str), .int (n : Nat)] kv = kv (.d (mD L rows g)) (stAt N k1) := fun kv => cKS_s KM
  have hs : ∀ x ∈ L, x.length ≤ sizeLine := fun x m => by have := hw x m; rw [sizeLine_eq]; omega
  have good : machB L rows g = true := by
    unfold machB
    have hr := M.len
    have c1 : rows.all (rowB L.length rows.length) = true := List.all_eq_true.mpr fun r m => by
      obtain ⟨p, q⟩ := M.row r m
      unfold rowB
      rw [decide_eq_true p, Bool.true_and]
      exact List.all_eq_true.mpr fun y my => by unfold roomB; rw [decide_eq_true (q y my).1, decide_eq_true (q y my).2]; rfl
    have c2 : g.all (roomB rows.length) = true := List.all_eq_true.mpr fun y my => by unfold roomB; rw [decide_eq_true (M.rooms y my).1, decide_eq_true (M.rooms y my).2]; rfl
    have c3 : (List.range (g.length - 1)).all (upB g) = true := List.all_eq_true.mpr fun i m => by
      have hi := List.mem_range.mp m
      unfold upB
      refine decide_eq_true ?_
      rw [List.getD_eq_getElem?_getD, List.getD_eq_getElem?_getD, List.getElem?_eq_getElem (by omega : i < g.length), List.getElem?_eq_getElem (by omega : i + 1 < g.length)]
      exact List.pairwise_iff_getElem.mp M.up i (i + 1) (by omega) (by omega) (by omega)
    rw [lettersB_good nd hW hL.1 hL.2, c1, c2, c3, decide_eq_true (show (1 : Int) ≤ (rows.length : Int) by omega), decide_eq_true (show (rows.length : Int) ≤ 8 by omega)]
    rfl
  have J := check_machine_eq (X := X) (L := L) (rows := rows) (g := g) hs (by have := M.few; omega)
  rw [good] at J
  have KC : ∀ {β : Type} (kd : D → Option β) (kx : Addr → Option β), cX (f_check_machine X) [mD L rows g] kd kx = kd .none := fun kd kx => cX_ok J
  obtain ⟨v, hb, hv1, hv2, KP⟩ := spoilt_eq (k := k1) G M hL hw (by omega) (by omega)
  have KP' : ∀ {β : Type} (kv : Vl → List D → Option β), cKS f_l_spoilt (stAt N k1) [mD L rows g] kv = kv (.d (mT v)) (stAt N (k1 + 3)) := fun kv => cKS_s KP
  have KR : ∀ {β : Type} (kv : Vl → Option β), cK (f_l_refused X) [mT v] kv = kv (.d (.bool true)) := fun kv => cK_s (refused_eq hN hb hv1 hv2)
  obtain ⟨ρ1, L1, k3, f5, f6, f7, f8, rfl, p1, p2⟩ := for_ex0 (f := trn [] (.nm 5) (b_law_12_1 X)) (fun i ρ => ∃ k' f5 f6 f7 f8, ρ = [e0, .own (.lst (stAt N k')), .dat (.tuple (L.map .str)), .dat x, .dat (mD L rows g), f5, f6, f7, f8] ∧ k1 + 3 ≤ k' ∧ k' ≤ k1 + 3 + 1010 * (i : Nat)) (l := rgD 0 3) (ρ := [e0, .own (.lst (stAt N (k1 + 3))), .dat (.tuple (L.map .str)), .dat x, .dat (mD L rows g), e5, e6, e7, e8])
    ⟨k1 + 3, _, _, _, _, rfl, by omega, by omega⟩ (fun i ρ hi ⟨k', f5, f6, f7, f8, e, q1, q2⟩ => by
      subst e
      rw [rgD_len] at hi
      obtain ⟨k4, z6, z7, z8, r1, r2, t⟩ := turn12 (X := X) (k := k') (x := nthD (rgD 0 3) i) (e0 := e0) (e3 := .dat x) (e5 := f5) (e6 := f6) (e7 := f7) (e8 := f8) G M hL (by omega) (by omega)
      exact ⟨_, t, k4, _, z6, z7, z8, rfl, by omega, by omega⟩)
  rw [rgD_len] at p2
  refine ⟨k3, .dat (mD L rows g), f5, f6, f7, f8, by omega, by omega, ?_⟩
  rw [trn_x]
  have nn : notNone PyData.none = false := rfl
  simp (config := { implicitDefEqProofs := false }) (disch := walk_at "side") only [↓reduceIte, decide_eq_true_eq, decide_true, decide_false, Bool.not_true, Bool.not_false, Bool.false_eq_true, Int.reduceEq, Int.reduceLT, Int.reduceLE, Int.reduceNeg, Int.reduceToNat, ↓okI, ↓okI2, ↓aV_d, ↓aV_o, ↓aV_n, ↓aV_w, ↓dV_d, ↓dV_wD, ↓aV_wD, ↓dO_d, ↓kV_w, ↓xE_dinD, ↓xE_dninD, ↓xE_dgetD, ↓xE_fnv, ↓xE_callF, ↓xE_callE, ↓xE_isaT, ↓xE_dspb, ↓xI_ukd, ↓xS_retD, ↓xS_fzD, ↓fzKD_D, ↓fzKD_d, ↓dV_n, ↓dV_w, ↓gE_0, ↓gE_s, ↓eL_l, ↓eD_l, ↓eV_d, ↓eV_l, ↓nA_d, ↓nA_o, ↓iD_i, ↓bD_b, ↓kD_i, ↓kD_s, ↓zD_d, ↓vZ_d, ↓vZ_n, ↓sR_0, ↓sR_s, ↓sK_n, ↓sK_0, ↓lD_l, ↓sD_l, ↓sD_t, ↓tD_t, ↓dA_nil, ↓dA_d, ↓dN_nil, ↓dN_c, ↓oZ_addI, ↓oZ_addS, ↓oZ_addT, ↓oZ_addL, ↓oZ_sub, ↓oZ_mul, ↓oZ_mulT, ↓oZ_mulL, ↓oZ_fdiv, ↓oZ_mod, ↓oZ_pow, ↓oZ_eqI, ↓oZ_eqS, ↓oZ_neS, ↓oZ_neI, ↓oZ_lt, ↓oZ_le, ↓oZ_gt, ↓oZ_ge, ↓oZ_ixL, ↓oZ_ixT, ↓aI_0, ↓aI_1, ↓aI_2, ↓nI_0, ↓nI_1, ↓lS_0, ↓lS_s, ↓aI_int, ↓aI_str, ↓aI_row, ↓aI_b2, ↓aI_i1, ↓aI_i2, ↓aI_i3, ↓aI_i4, ↓aI_i5, ↓aI_i6, ↓oZ_abyz, ↓oZ_az, ↓cZ_lenLm, ↓cZ_lenTm, ↓cZ_lenP, ↓oZ_ixP, ↓sD_P, ↓cZ_lstP, ↓cZ_abs, ↓cZ_int, ↓cZ_intB, ↓cZ_tup, ↓cZ_lstL, ↓cZ_lstT, ↓cZ_all, ↓cZ_any, ↓cZ_max2, ↓cZ_min2, ↓cZ_sum, ↓cZ_sorted, ↓xE_int, ↓xE_bl, ↓xE_str, ↓xE_non, ↓xE_var, ↓xE_op, ↓xE_neg, ↓xE_nt, ↓xE_an, ↓xE_or, ↓xE_ch, ↓xE_isN, ↓xE_notN, ↓xE_ife, ↓xE_tup, ↓xE_lst, ↓xE_sl, ↓sl1_T, ↓sl1_L, ↓xE_cb, ↓xE_isa, ↓xE_call, ↓xE_callX, ↓xE_lget, ↓xE_srs, xE_revT, ↓xE_revL, ↓xE_sw, ↓s2D_s, ↓xB_sif, ↓xE_dget2, ↓xT_tl, ↓xI_ky, ↓xS_lk0, ↓xR_x, ↓xR_call, ↓xR_lst, ↓xR_e, ↓xB_ret, ↓xB_iff, ↓xS_tryK, ↓xS_never, ↓xS_mv0, ↓xS_aug, ↓eF_l, noF_nil, noF_dat, noF_no, noF_lst, noF_dK, ↓sK_j, ↓xE_callS, ↓xE_lc, ↓xE_lc2, ↓xE_callL, ↓rvA_d, ↓tw2_t, ↓sN_0, ↓sN_s, ↓xE_lrg, ↓xE_trg, ↓xE_pop, ↓xE_idxL, ↓sT_s, ↓xE_idxT, ↓xE_dget, ↓xE_din, ↓xE_dnin, ↓xE_dset, ↓xE_dspV, ↓xE_dspC, ↓xE_dspM, ↓tE_d, ↓xI_rng3, ↓xA_nil, ↓xA_cons, ↓xT_te, ↓xT_tb, ↓xT_nt, ↓xT_an, ↓xT_or, ↓xT_yes, ↓xT_lend, ↓xP_no, ↓xP_at, ↓xI_rng1, ↓xI_rng2, ↓xI_u, ↓xI_en, ↓xI_enl, ↓xG_nm, ↓xG_tup, ↓xGs_nil, ↓xGs_cons, ↓sV_d, ↓sV_n, ↓sV_w, ↓rV_d, ↓rV_n, ↓rV_w, ↓rV_o, ↓xS_set, ↓xS_asg, ↓xS_seti, ↓xS_app, ↓xS_newD, ↓xS_dput, ↓xS_drop, ↓xS_dropX, ↓xS_raise, ↓xS_tryC, ↓xS_ret, ↓xS_retN, ↓xS_iff, ↓xS_for, ↓xS_wh, ↓xS_brk, ↓xS_cont, ↓xS_nx, ↓xS_seq, ↓xS_fz, ↓fzK_l, ↓fzK_d, ↓fzK_n, ↓fzK_D, ↓kS_nx, ↓kS_rt, ↓kS_bk, ↓kS_ct, ↓out1_rt, ↓out2_rt, ↓xE_allIn, ↓xE_inC, ↓xE_isB, ↓strD_s, ↓u_b_law_12_3, ↓K8, hn, ↓KM', ↓KC, nn, Bool.false_eq_true, ↓KP', ↓KR, ↓fK_s L1]
end
theorem law12_true {X : Cl} (hN : [X.se, X.na, X.tl, X.mi, X.bp, X.bf, X.br].Nodup) {ns : List Int} (h : ns.length ≤ 63) : f_law_12 X [.list (ns.map .int)] = some (.dat (.bool true)) := by
  have hK : KMax = 1000000000 := rfl
  have G := good_stream h
  have KS : ∀ {β : Type} (kv : Vl → Option β), cK f_l_stream [.list (ns.map .int)] kv = kv (.w (.lst ((streamOf ns).map .int))) := fun kv => cK_s (stream_eq h)
  have e0 : [PyData.list ((streamOf ns).map PyData.int), PyData.int 0] = stAt (streamOf ns) 0 := rfl
  generalize streamOf ns = N at *
  have a4 := nxt_lo (N := N) (k := 0) (many := 4) (by decide)
  have b4 := nxt_hi (N := N) (k := 0) (many := 4) (by decide)
  obtain ⟨n4, en4⟩ : ∃ n, nxt N 0 4 = n := ⟨_, rfl⟩
  rw [en4] at a4 b4
  have K4 : ∀ {β : Type} (kv : Vl → List D → Option β), cKS f_l_next (stAt N 0) [.int 4] kv = kv (.d (.int n4)) (stAt N 1) := fun kv => by rw [nextK G (by omega) (by omega) (by omega), en4]; rfl
  obtain ⟨m, hm⟩ : ∃ m : Nat, 1 + n4 = (m : Int) := ⟨(1 + n4).toNat, by omega⟩
  have KL : ∀ {β : Type} (kv : Vl → List D → Option β), cKS f_l_letters_2 (stAt N 1) [.int (m : Nat)] kv = kv (.d (.tuple ((lettersOf N 1 m).1.map .str))) (stAt N (lettersOf N 1 m).2) := fun kv => letters2K G (by omega) (by omega) (by omega)
  have ll := letters_len' N 1 m
  have lb := letters_bnd N 1 m
  have l8 := letters_len8 N 1 m
  have lw := letters_words N 1 (n := m) (by omega)
  have ld := (letters_nd N 1 m (by omega)).1
  generalize hp : lettersOf N 1 m = p at *
  obtain ⟨L, k1⟩ := p
  simp only at ll lb l8 lw ld KL
  obtain ⟨ρ1, L1, k3, f3, f4, f5, f6, f7, f8, rfl, p1, p2⟩ := for_ex0 (f := trn [] (.nm 3) (b_law_12_3 X)) (fun i ρ => ∃ k' f3 f4 f5 f6 f7 f8, ρ = [.dat (.list (ns.map .int)), .own (.lst (stAt N k')), .dat (.tuple (L.map .str)), f3, f4, f5, f6, f7, f8] ∧ k1 ≤ k' ∧ k' ≤ k1 + 4000 * (i : Nat)) (l := rgD 0 3) (ρ := [.dat (.list (ns.map .int)), .own (.lst (stAt N k1)), .dat (.tuple (L.map .str)), .no, .no, .no, .no, .no, .no])
    ⟨k1, _, _, _, _, _, _, rfl, by omega, by omega⟩ (fun i ρ hi ⟨k', f3, f4, f5, f6, f7, f8, e, q1, q2⟩ => by
      subst e
      rw [rgD_len] at hi
      obtain ⟨k4, z4, z5, z6, z7, z8, r1, r2, t⟩ := turn12m (X := X) (k := k') (x := nthD (rgD 0 3) i) (e0 := .dat (.list (ns.map .int))) (e3 := f3) (e4 := f4) (e5 := f5) (e6 := f6) (e7 := f7) (e8 := f8) hN G ld lw l8 (by omega) (by omega) (by omega)
      exact ⟨_, t, k4, _, z4, z5, z6, z7, z8, rfl, by omega, by omega⟩)
  rw [x_law_12]
  simp (config := { implicitDefEqProofs := false }) (disch := walk_at "side") only [↓reduceIte, decide_eq_true_eq, decide_true, decide_false, Bool.not_true, Bool.not_false, Bool.false_eq_true, Int.reduceEq, Int.reduceLT, Int.reduceLE, Int.reduceNeg, Int.reduceToNat, ↓okI, ↓okI2, ↓aV_d, ↓aV_o, ↓aV_n, ↓aV_w, ↓dV_d, ↓dV_wD, ↓aV_wD, ↓dO_d, ↓kV_w, ↓xE_dinD, ↓xE_dninD, ↓xE_dgetD, ↓xE_fnv, ↓xE_callF, ↓xE_callE, ↓xE_isaT, ↓xE_dspb, ↓xI_ukd, ↓xS_retD, ↓xS_fzD, ↓fzKD_D, ↓fzKD_d, ↓dV_n, ↓dV_w, ↓gE_0, ↓gE_s, ↓eL_l, ↓eD_l, ↓eV_d, ↓eV_l, ↓nA_d, ↓nA_o, ↓iD_i, ↓bD_b, ↓kD_i, ↓kD_s, ↓zD_d, ↓vZ_d, ↓vZ_n, ↓sR_0, ↓sR_s, ↓sK_n, ↓sK_0, ↓lD_l, ↓sD_l, ↓sD_t, ↓tD_t, ↓dA_nil, ↓dA_d, ↓dN_nil, ↓dN_c, ↓oZ_addI, ↓oZ_addS, ↓oZ_addT, ↓oZ_addL, ↓oZ_sub, ↓oZ_mul, ↓oZ_mulT, ↓oZ_mulL, ↓oZ_fdiv, ↓oZ_mod, ↓oZ_pow, ↓oZ_eqI, ↓oZ_eqS, ↓oZ_neS, ↓oZ_neI, ↓oZ_lt, ↓oZ_le, ↓oZ_gt, ↓oZ_ge, ↓oZ_ixL, ↓oZ_ixT, ↓aI_0, ↓aI_1, ↓aI_2, ↓nI_0, ↓nI_1, ↓lS_0, ↓lS_s, ↓aI_int, ↓aI_str, ↓aI_row, ↓aI_b2, ↓aI_i1, ↓aI_i2, ↓aI_i3, ↓aI_i4, ↓aI_i5, ↓aI_i6, ↓oZ_abyz, ↓oZ_az, ↓cZ_lenLm, ↓cZ_lenTm, ↓cZ_lenP, ↓oZ_ixP, ↓sD_P, ↓cZ_lstP, ↓cZ_abs, ↓cZ_int, ↓cZ_intB, ↓cZ_tup, ↓cZ_lstL, ↓cZ_lstT, ↓cZ_all, ↓cZ_any, ↓cZ_max2, ↓cZ_min2, ↓cZ_sum, ↓cZ_sorted, ↓xE_int, ↓xE_bl, ↓xE_str, ↓xE_non, ↓xE_var, ↓xE_op, ↓xE_neg, ↓xE_nt, ↓xE_an, ↓xE_or, ↓xE_ch, ↓xE_isN, ↓xE_notN, ↓xE_ife, ↓xE_tup, ↓xE_lst, ↓xE_sl, ↓sl1_T, ↓sl1_L, ↓xE_cb, ↓xE_isa, ↓xE_call, ↓xE_callX, ↓xE_lget, ↓xE_srs, xE_revT, ↓xE_revL, ↓xE_sw, ↓s2D_s, ↓xB_sif, ↓xE_dget2, ↓xT_tl, ↓xI_ky, ↓xS_lk0, ↓xR_x, ↓xR_call, ↓xR_lst, ↓xR_e, ↓xB_ret, ↓xB_iff, ↓xS_tryK, ↓xS_never, ↓xS_mv0, ↓xS_aug, ↓eF_l, noF_nil, noF_dat, noF_no, noF_lst, noF_dK, ↓sK_j, ↓xE_callS, ↓xE_lc, ↓xE_lc2, ↓xE_callL, ↓rvA_d, ↓tw2_t, ↓sN_0, ↓sN_s, ↓xE_lrg, ↓xE_trg, ↓xE_pop, ↓xE_idxL, ↓sT_s, ↓xE_idxT, ↓xE_dget, ↓xE_din, ↓xE_dnin, ↓xE_dset, ↓xE_dspV, ↓xE_dspC, ↓xE_dspM, ↓tE_d, ↓xI_rng3, ↓xA_nil, ↓xA_cons, ↓xT_te, ↓xT_tb, ↓xT_nt, ↓xT_an, ↓xT_or, ↓xT_yes, ↓xT_lend, ↓xP_no, ↓xP_at, ↓xI_rng1, ↓xI_rng2, ↓xI_u, ↓xI_en, ↓xI_enl, ↓xG_nm, ↓xG_tup, ↓xGs_nil, ↓xGs_cons, ↓sV_d, ↓sV_n, ↓sV_w, ↓rV_d, ↓rV_n, ↓rV_w, ↓rV_o, ↓xS_set, ↓xS_asg, ↓xS_seti, ↓xS_app, ↓xS_newD, ↓xS_dput, ↓xS_drop, ↓xS_dropX, ↓xS_raise, ↓xS_tryC, ↓xS_ret, ↓xS_retN, ↓xS_iff, ↓xS_for, ↓xS_wh, ↓xS_brk, ↓xS_cont, ↓xS_nx, ↓xS_seq, ↓xS_fz, ↓fzK_l, ↓fzK_d, ↓fzK_n, ↓fzK_D, ↓kS_nx, ↓kS_rt, ↓kS_bk, ↓kS_ct, ↓out1_rt, ↓out2_rt, ↓xE_allIn, ↓xE_inC, ↓xE_isB, ↓strD_s, ↓u_c_law_12, ↓KS, e0, ↓K4, hm, ↓KL, ↓fK_s L1]
end CS
set_option autoImplicit true
namespace EV
open PySem PySem.Spec PyProof.Rows L2 DL
end EV
set_option autoImplicit false
namespace EV
open PySem PySem.Spec PyProof.Rows L2 DL
end EV
namespace EV
open PySem PySem.Spec PyProof.Rows L2 DL
variable [TabC]
theorem FnG_allPT {ι : Type} {Pr : ι → Prop} {P : Program} {w : World} {K : PySem.W.Frag} {mg : Str → Option Value} {base : Heap} {C : CXT} {k : Nat} {f : Addr} {fd : FuncData} {ps : List Str} {g : ι → List D → Option RetV} (i : ι) (hi : Pr i) (F : FnG P w K mg base C k f fd ps (spD (fun ds r => g i ds = some r) K)) : FnG P w K mg base C k f fd ps (spD (fun ds r => ∀ i, Pr i → g i ds = some r) K) :=
  ⟨fun vs H Q E ⟨F1, ds, r, a, b, c, d⟩ => F.ar vs H Q E ⟨F1, ds, r, a, b, c i hi, d⟩, fun A gA hr o s H args us vs Q E he hb hv ⟨F1, ds, r, a, b, c, d⟩ => F.go A gA hr o s H args us vs Q E he hb hv ⟨F1, ds, r, a, b, c i hi, d⟩⟩
end EV
set_option autoImplicit true
namespace K04
open PySem PySem.Spec PyProof.Rows L2 DL EV CS
theorem rv_str {x : Str} {t : Tok} : RelV (.str x) (.str x t) := ⟨t, rfl⟩
theorem asked [TabC] (K : PySem.W.Frag) (H : Hp) (a : Addr) (ns : List Int) (hl : ns.length ≤ 63) (hT : TabsE H) (hS : SqL K H a (ns.map V.int)) : spD (fun ds r => ∀ X : EV.Cl, [X.se, X.na, X.tl, X.mi, X.bp, X.bf, X.br].Nodup → f_law_12 X ds = some r) K [V.ref a] H (fun v H1 => v = V.bl true ∧ TabsE H1) (fun _ _ _ => False) :=
  ⟨H, [.list (ns.map .int)], .dat (.bool true), ⟨Same.refl _, hT⟩, .cons (.lst hS (dpInts ns)) .nil, fun X hX => CS.law12_true hX hl, fun v F1 H1 s1 x => by
    cases x
    exact ⟨rfl, s1.tabs⟩⟩
theorem facts {P q : Program} {w : World} {K : PySem.W.Frag} {h : Heap} {mg : Str → Option Value} {fa : Addr} (X : K.In h) (G : h.Ns mainGlobals mg) (hT : ∀ (y : Str) (c P : Addr) (dr : DefRec), (recsOf q).find? (fun e => e.name == y) = some dr → PySem.W.tabIn K y = some (c, P) → h.get? P = some { cls := .none, data := .fields #[] }) (hfa : mg "law" = some (.ref fa))
    {f24 : Addr} {od24 an24 : Option Addr} {sl24 : Array (Option Value)} {oc24 kV24 dc24 pm24 cd24 ct24 : Value}
    {f25 : Addr} {od25 an25 : Option Addr} {sl25 : Array (Option Value)} {oc25 kV25 dc25 pm25 cd25 ct25 : Value}
    {f26 : Addr} {od26 an26 : Option Addr} {sl26 : Array (Option Value)} {oc26 kV26 dc26 pm26 cd26 ct26 : Value}
    {f23 : Addr} {od23 an23 : Option Addr} {sl23 : Array (Option Value)} {oc23 kV23 dc23 pm23 cd23 ct23 : Value}
    {f27 : Addr} {od27 an27 : Option Addr} {sl27 : Array (Option Value)} {oc27 kV27 dc27 pm27 cd27 ct27 : Value}
    {f29 : Addr} {od29 an29 : Option Addr} {sl29 : Array (Option Value)} {oc29 kV29 dc29 pm29 cd29 ct29 : Value}
    {f28 : Addr} {od28 an28 : Option Addr} {sl28 : Array (Option Value)} {oc28 kV28 dc28 pm28 cd28 ct28 : Value}
    {f19 : Addr} {od19 an19 : Option Addr} {sl19 : Array (Option Value)} {oc19 kV19 dc19 pm19 cd19 ct19 : Value}
    {f20 : Addr} {od20 an20 : Option Addr} {sl20 : Array (Option Value)} {oc20 kV20 dc20 pm20 cd20 ct20 : Value}
    {f13 : Addr} {od13 an13 : Option Addr} {sl13 : Array (Option Value)} {oc13 kV13 dc13 pm13 ct13 : Value}
    {cc13 cp13 : Addr} {oC13 : Option Addr} {vC13 : Array Value} {sC13 : Array (Option Value)}
    {f14 : Addr} {od14 an14 : Option Addr} {sl14 : Array (Option Value)} {oc14 kV14 dc14 pm14 cd14 ct14 : Value}
    {f18 : Addr} {od18 an18 : Option Addr} {sl18 : Array (Option Value)} {oc18 kV18 dc18 pm18 cd18 ct18 : Value}
    {f17 : Addr} {od17 an17 : Option Addr} {sl17 : Array (Option Value)} {oc17 kV17 dc17 pm17 cd17 ct17 : Value}
    {f30 : Addr} {od30 an30 : Option Addr} {sl30 : Array (Option Value)} {oc30 kV30 dc30 pm30 cd30 ct30 : Value}
    {f31 : Addr} {od31 an31 : Option Addr} {sl31 : Array (Option Value)} {oc31 kV31 dc31 pm31 cd31 ct31 : Value}
    {f22 : Addr} {od22 an22 : Option Addr} {sl22 : Array (Option Value)} {oc22 kV22 dc22 pm22 cd22 ct22 : Value}
    {f32 : Addr} {od32 an32 : Option Addr} {sl32 : Array (Option Value)} {oc32 kV32 dc32 pm32 cd32 ct32 : Value}
    {aT_RESERVED : Addr} {iT_RESERVED : Array Value} {nT_RESERVED : Nat} {sT_RESERVED : Array (Option Value)}
    {t_MAX_LETTERS : Tok}
    {t_MAX_ROOMS : Tok}
    {t_MAX_WORD : Tok}
    {t_SMALL_LETTERS : Tok}
    {C6 : Addr}
    {C5 : Addr}
    {C7 : Addr}
    {C4 : Addr}
    {C2 : Addr}
    {C1 : Addr}
    {C3 : Addr}
    (a24 : PySem.W.nsIn K mainGlobals "_law_next" = some (some (.ref f24))) (l24 : K.lookup f24 = some ⟨oc24, od24, .func (PySem.W.fnOf "_law_next" "_law_next" (defArgs (topS 24)) (defBody (topS 24)) (defScope (topS 24)) .none kV24 dc24 pm24 an24 cd24 ct24), sl24⟩) (c24 : PySem.W.codeIn K cd24 "_law_next" = true) (k24 : PySem.W.keepIn K (.ref f24) = true)
    (a25 : PySem.W.nsIn K mainGlobals "_law_word" = some (some (.ref f25))) (l25 : K.lookup f25 = some ⟨oc25, od25, .func (PySem.W.fnOf "_law_word" "_law_word" (defArgs (topS 25)) (defBody (topS 25)) (defScope (topS 25)) .none kV25 dc25 pm25 an25 cd25 ct25), sl25⟩) (c25 : PySem.W.codeIn K cd25 "_law_word" = true) (k25 : PySem.W.keepIn K (.ref f25) = true)
    (a26 : PySem.W.nsIn K mainGlobals "_law_letters" = some (some (.ref f26))) (l26 : K.lookup f26 = some ⟨oc26, od26, .func (PySem.W.fnOf "_law_letters" "_law_letters" (defArgs (topS 26)) (defBody (topS 26)) (defScope (topS 26)) .none kV26 dc26 pm26 an26 cd26 ct26), sl26⟩) (c26 : PySem.W.codeIn K cd26 "_law_letters" = true) (k26 : PySem.W.keepIn K (.ref f26) = true)
    (a23 : PySem.W.nsIn K mainGlobals "_law_stream" = some (some (.ref f23))) (l23 : K.lookup f23 = some ⟨oc23, od23, .func (PySem.W.fnOf "_law_stream" "_law_stream" (defArgs (topS 23)) (defBody (topS 23)) (defScope (topS 23)) .none kV23 dc23 pm23 an23 cd23 ct23), sl23⟩) (c23 : PySem.W.codeIn K cd23 "_law_stream" = true) (k23 : PySem.W.keepIn K (.ref f23) = true)
    (a27 : PySem.W.nsIn K mainGlobals "_law_machine" = some (some (.ref f27))) (l27 : K.lookup f27 = some ⟨oc27, od27, .func (PySem.W.fnOf "_law_machine" "_law_machine" (defArgs (topS 27)) (defBody (topS 27)) (defScope (topS 27)) .none kV27 dc27 pm27 an27 cd27 ct27), sl27⟩) (c27 : PySem.W.codeIn K cd27 "_law_machine" = true) (k27 : PySem.W.keepIn K (.ref f27) = true)
    (a29 : PySem.W.nsIn K mainGlobals "_law_log" = some (some (.ref f29))) (l29 : K.lookup f29 = some ⟨oc29, od29, .func (PySem.W.fnOf "_law_log" "_law_log" (defArgs (topS 29)) (defBody (topS 29)) (defScope (topS 29)) .none kV29 dc29 pm29 an29 cd29 ct29), sl29⟩) (c29 : PySem.W.codeIn K cd29 "_law_log" = true) (k29 : PySem.W.keepIn K (.ref f29) = true)
    (a28 : PySem.W.nsIn K mainGlobals "_law_behind" = some (some (.ref f28))) (l28 : K.lookup f28 = some ⟨oc28, od28, .func (PySem.W.fnOf "_law_behind" "_law_behind" (defArgs (topS 28)) (defBody (topS 28)) (defScope (topS 28)) .none kV28 dc28 pm28 an28 cd28 ct28), sl28⟩) (c28 : PySem.W.codeIn K cd28 "_law_behind" = true) (k28 : PySem.W.keepIn K (.ref f28) = true)
    (a19 : PySem.W.nsIn K mainGlobals "room_behind" = some (some (.ref f19))) (l19 : K.lookup f19 = some ⟨oc19, od19, .func (PySem.W.fnOf "room_behind" "room_behind" (defArgs (topS 19)) (defBody (topS 19)) (defScope (topS 19)) .none kV19 dc19 pm19 an19 cd19 ct19), sl19⟩) (c19 : PySem.W.codeIn K cd19 "room_behind" = true) (k19 : PySem.W.keepIn K (.ref f19) = true)
    (a20 : PySem.W.nsIn K mainGlobals "lets" = some (some (.ref f20))) (l20 : K.lookup f20 = some ⟨oc20, od20, .func (PySem.W.fnOf "lets" "lets" (defArgs (topS 20)) (defBody (topS 20)) (defScope (topS 20)) .none kV20 dc20 pm20 an20 cd20 ct20), sl20⟩) (c20 : PySem.W.codeIn K cd20 "lets" = true) (k20 : PySem.W.keepIn K (.ref f20) = true)
    (a13 : PySem.W.nsIn K mainGlobals "is_word" = some (some (.ref f13))) (l13 : K.lookup f13 = some ⟨oc13, od13, .func (PySem.W.fnOf "is_word" "is_word" (defArgs (topS 13)) (defBody (topS 13)) (defScope (topS 13)) .none kV13 dc13 pm13 an13 (.ref cc13) ct13), sl13⟩) (c13 : PySem.W.codeIn K (.ref cc13) "is_word" = true) (k13 : PySem.W.keepIn K (.ref f13) = true)
    (lc13 : K.lookup cc13 = some ⟨.type "code", oC13, .fields vC13, sC13⟩) (p13 : (vC13[11]? : Option Value) = some (.ref cp13)) (nt13 : K.lookup cp13 = none) (hd13 : PySem.W.codeHdIn K cc13 cp13 = true) (fr13 : ((recsOf q).find? fun e => e.name == ("is_word" : Str)).isSome = true)
    (a14 : PySem.W.nsIn K mainGlobals "check_letters" = some (some (.ref f14))) (l14 : K.lookup f14 = some ⟨oc14, od14, .func (PySem.W.fnOf "check_letters" "check_letters" (defArgs (topS 14)) (defBody (topS 14)) (defScope (topS 14)) .none kV14 dc14 pm14 an14 cd14 ct14), sl14⟩) (c14 : PySem.W.codeIn K cd14 "check_letters" = true) (k14 : PySem.W.keepIn K (.ref f14) = true)
    (a18 : PySem.W.nsIn K mainGlobals "_check_rooms" = some (some (.ref f18))) (l18 : K.lookup f18 = some ⟨oc18, od18, .func (PySem.W.fnOf "_check_rooms" "_check_rooms" (defArgs (topS 18)) (defBody (topS 18)) (defScope (topS 18)) .none kV18 dc18 pm18 an18 cd18 ct18), sl18⟩) (c18 : PySem.W.codeIn K cd18 "_check_rooms" = true) (k18 : PySem.W.keepIn K (.ref f18) = true)
    (a17 : PySem.W.nsIn K mainGlobals "check_machine" = some (some (.ref f17))) (l17 : K.lookup f17 = some ⟨oc17, od17, .func (PySem.W.fnOf "check_machine" "check_machine" (defArgs (topS 17)) (defBody (topS 17)) (defScope (topS 17)) .none kV17 dc17 pm17 an17 cd17 ct17), sl17⟩) (c17 : PySem.W.codeIn K cd17 "check_machine" = true) (k17 : PySem.W.keepIn K (.ref f17) = true)
    (a30 : PySem.W.nsIn K mainGlobals "_law_refused" = some (some (.ref f30))) (l30 : K.lookup f30 = some ⟨oc30, od30, .func (PySem.W.fnOf "_law_refused" "_law_refused" (defArgs (topS 30)) (defBody (topS 30)) (defScope (topS 30)) .none kV30 dc30 pm30 an30 cd30 ct30), sl30⟩) (c30 : PySem.W.codeIn K cd30 "_law_refused" = true) (k30 : PySem.W.keepIn K (.ref f30) = true)
    (a31 : PySem.W.nsIn K mainGlobals "_law_spoilt" = some (some (.ref f31))) (l31 : K.lookup f31 = some ⟨oc31, od31, .func (PySem.W.fnOf "_law_spoilt" "_law_spoilt" (defArgs (topS 31)) (defBody (topS 31)) (defScope (topS 31)) .none kV31 dc31 pm31 an31 cd31 ct31), sl31⟩) (c31 : PySem.W.codeIn K cd31 "_law_spoilt" = true) (k31 : PySem.W.keepIn K (.ref f31) = true)
    (a22 : PySem.W.nsIn K mainGlobals "_law_same" = some (some (.ref f22))) (l22 : K.lookup f22 = some ⟨oc22, od22, .func (PySem.W.fnOf "_law_same" "_law_same" (defArgs (topS 22)) (defBody (topS 22)) (defScope (topS 22)) .none kV22 dc22 pm22 an22 cd22 ct22), sl22⟩) (c22 : PySem.W.codeIn K cd22 "_law_same" = true) (k22 : PySem.W.keepIn K (.ref f22) = true)
    (a32 : PySem.W.nsIn K mainGlobals "law" = some (some (.ref f32))) (l32 : K.lookup f32 = some ⟨oc32, od32, .func (PySem.W.fnOf "law" "law" (defArgs (topS 32)) (defBody (topS 32)) (defScope (topS 32)) .none kV32 dc32 pm32 an32 cd32 ct32), sl32⟩) (c32 : PySem.W.codeIn K cd32 "law" = true) (k32 : PySem.W.keepIn K (.ref f32) = true)
    (v_RESERVED : PySem.W.nsIn K mainGlobals "RESERVED" = some (some (.ref aT_RESERVED))) (lT_RESERVED : K.lookup aT_RESERVED = some ⟨.type "tuple", none, .seq iT_RESERVED nT_RESERVED, sT_RESERVED⟩) (zT_RESERVED : iT_RESERVED.size ≤ sizeLine) (wT_RESERVED : Vals ((["any", "empty", "none", "and", "or", "not", "again"] : List Str).map V.str) iT_RESERVED.toList)
    (z_abs : PySem.W.nsIn K mainGlobals "abs" = some none)
    (z_all : PySem.W.nsIn K mainGlobals "all" = some none)
    (z_enumerate : PySem.W.nsIn K mainGlobals "enumerate" = some none)
    (z_int : PySem.W.nsIn K mainGlobals "int" = some none)
    (z_isinstance : PySem.W.nsIn K mainGlobals "isinstance" = some none)
    (z_len : PySem.W.nsIn K mainGlobals "len" = some none)
    (z_range : PySem.W.nsIn K mainGlobals "range" = some none)
    (z_repr : PySem.W.nsIn K mainGlobals "repr" = some none)
    (z_tuple : PySem.W.nsIn K mainGlobals "tuple" = some none)
    (v_MAX_LETTERS : PySem.W.nsIn K mainGlobals "MAX_LETTERS" = some (some (.int 4 t_MAX_LETTERS)))
    (v_MAX_ROOMS : PySem.W.nsIn K mainGlobals "MAX_ROOMS" = some (some (.int 8 t_MAX_ROOMS)))
    (v_MAX_WORD : PySem.W.nsIn K mainGlobals "MAX_WORD" = some (some (.int 8 t_MAX_WORD)))
    (v_SMALL_LETTERS : PySem.W.nsIn K mainGlobals "SMALL_LETTERS" = some (some (.str "abcdefghijklmnopqrstuvwxyz" t_SMALL_LETTERS)))
    (A6 : PySem.W.nsIn K mainGlobals "BadForm" = some (some (.ref C6)))
    (A5 : PySem.W.nsIn K mainGlobals "BadPaper" = some (some (.ref C5)))
    (A7 : PySem.W.nsIn K mainGlobals "Broken" = some (some (.ref C7)))
    (A4 : PySem.W.nsIn K mainGlobals "Missing" = some (some (.ref C4)))
    (A2 : PySem.W.nsIn K mainGlobals "NotAllowed" = some (some (.ref C2)))
    (A1 : PySem.W.nsIn K mainGlobals "ScarpError" = some (some (.ref C1)))
    (A3 : PySem.W.nsIn K mainGlobals "TooLarge" = some (some (.ref C3)))
    (xE2 : PySem.W.excIn K C2 [.type "ValueError", .type "Exception", .type "BaseException", .type "object"] "ValueError.__new__" = true) (kE2 : PySem.W.keepIn K (.ref C2) = true)
    (bE1 : PySem.W.subIn K (.ref C1) (.type "BaseException") = some true) (tE1 : PySem.W.typeIn K (.ref C1) = some (.type "type")) (iE1 : PySem.W.isClsIn K C1 = true)
    (bE2 : PySem.W.subIn K (.ref C2) (.type "BaseException") = some true) (tE2 : PySem.W.typeIn K (.ref C2) = some (.type "type")) (iE2 : PySem.W.isClsIn K C2 = true)
    (bE3 : PySem.W.subIn K (.ref C3) (.type "BaseException") = some true) (tE3 : PySem.W.typeIn K (.ref C3) = some (.type "type")) (iE3 : PySem.W.isClsIn K C3 = true)
    (bE4 : PySem.W.subIn K (.ref C4) (.type "BaseException") = some true) (tE4 : PySem.W.typeIn K (.ref C4) = some (.type "type")) (iE4 : PySem.W.isClsIn K C4 = true)
    (bE5 : PySem.W.subIn K (.ref C5) (.type "BaseException") = some true) (tE5 : PySem.W.typeIn K (.ref C5) = some (.type "type")) (iE5 : PySem.W.isClsIn K C5 = true)
    (bE6 : PySem.W.subIn K (.ref C6) (.type "BaseException") = some true) (tE6 : PySem.W.typeIn K (.ref C6) = some (.type "type")) (iE6 : PySem.W.isClsIn K C6 = true)
    (bE7 : PySem.W.subIn K (.ref C7) (.type "BaseException") = some true) (tE7 : PySem.W.typeIn K (.ref C7) = some (.type "type")) (iE7 : PySem.W.isClsIn K C7 = true)
    (e12 : PySem.W.findIn K (.ref C2) "__getattribute__" = some (some (.builtin "BaseException.__getattribute__"))) (e22 : PySem.W.findIn K (.ref C2) "__getattr__" = some none) (e32 : PySem.W.hasDictIn K C2 = true) (e42 : PySem.W.findIn K (.ref C2) "__class__" = some (some (.builtin "object.__class__"))) (e72 : PySem.W.mroIn K C2 (.type "object") = some true)
    (s2f2 : PySem.W.subIn K (.ref C2) (.ref C2) = some true) (s3f2 : PySem.W.subIn K (.ref C2) (.ref C3) = some false) (s4f2 : PySem.W.subIn K (.ref C2) (.ref C4) = some false) (s5f2 : PySem.W.subIn K (.ref C2) (.ref C5) = some false) (s6f2 : PySem.W.subIn K (.ref C2) (.ref C6) = some false) (s7f2 : PySem.W.subIn K (.ref C2) (.ref C7) = some false) (s1f2 : PySem.W.subIn K (.ref C2) (.ref C1) = some true)
    (e13 : PySem.W.findIn K (.ref C3) "__getattribute__" = some (some (.builtin "BaseException.__getattribute__"))) (e23 : PySem.W.findIn K (.ref C3) "__getattr__" = some none) (e33 : PySem.W.hasDictIn K C3 = true) (e43 : PySem.W.findIn K (.ref C3) "__class__" = some (some (.builtin "object.__class__"))) (e73 : PySem.W.mroIn K C3 (.type "object") = some true)
    (s2f3 : PySem.W.subIn K (.ref C3) (.ref C2) = some false) (s3f3 : PySem.W.subIn K (.ref C3) (.ref C3) = some true) (s4f3 : PySem.W.subIn K (.ref C3) (.ref C4) = some false) (s5f3 : PySem.W.subIn K (.ref C3) (.ref C5) = some false) (s6f3 : PySem.W.subIn K (.ref C3) (.ref C6) = some false) (s7f3 : PySem.W.subIn K (.ref C3) (.ref C7) = some false) (s1f3 : PySem.W.subIn K (.ref C3) (.ref C1) = some true)
    (e14 : PySem.W.findIn K (.ref C4) "__getattribute__" = some (some (.builtin "BaseException.__getattribute__"))) (e24 : PySem.W.findIn K (.ref C4) "__getattr__" = some none) (e34 : PySem.W.hasDictIn K C4 = true) (e44 : PySem.W.findIn K (.ref C4) "__class__" = some (some (.builtin "object.__class__"))) (e74 : PySem.W.mroIn K C4 (.type "object") = some true)
    (s2f4 : PySem.W.subIn K (.ref C4) (.ref C2) = some false) (s3f4 : PySem.W.subIn K (.ref C4) (.ref C3) = some false) (s4f4 : PySem.W.subIn K (.ref C4) (.ref C4) = some true) (s5f4 : PySem.W.subIn K (.ref C4) (.ref C5) = some false) (s6f4 : PySem.W.subIn K (.ref C4) (.ref C6) = some false) (s7f4 : PySem.W.subIn K (.ref C4) (.ref C7) = some false) (s1f4 : PySem.W.subIn K (.ref C4) (.ref C1) = some true)
    (e15 : PySem.W.findIn K (.ref C5) "__getattribute__" = some (some (.builtin "BaseException.__getattribute__"))) (e25 : PySem.W.findIn K (.ref C5) "__getattr__" = some none) (e35 : PySem.W.hasDictIn K C5 = true) (e45 : PySem.W.findIn K (.ref C5) "__class__" = some (some (.builtin "object.__class__"))) (e75 : PySem.W.mroIn K C5 (.type "object") = some true)
    (s2f5 : PySem.W.subIn K (.ref C5) (.ref C2) = some false) (s3f5 : PySem.W.subIn K (.ref C5) (.ref C3) = some false) (s4f5 : PySem.W.subIn K (.ref C5) (.ref C4) = some false) (s5f5 : PySem.W.subIn K (.ref C5) (.ref C5) = some true) (s6f5 : PySem.W.subIn K (.ref C5) (.ref C6) = some false) (s7f5 : PySem.W.subIn K (.ref C5) (.ref C7) = some false) (s1f5 : PySem.W.subIn K (.ref C5) (.ref C1) = some true)
    (e16 : PySem.W.findIn K (.ref C6) "__getattribute__" = some (some (.builtin "BaseException.__getattribute__"))) (e26 : PySem.W.findIn K (.ref C6) "__getattr__" = some none) (e36 : PySem.W.hasDictIn K C6 = true) (e46 : PySem.W.findIn K (.ref C6) "__class__" = some (some (.builtin "object.__class__"))) (e76 : PySem.W.mroIn K C6 (.type "object") = some true)
    (s2f6 : PySem.W.subIn K (.ref C6) (.ref C2) = some false) (s3f6 : PySem.W.subIn K (.ref C6) (.ref C3) = some false) (s4f6 : PySem.W.subIn K (.ref C6) (.ref C4) = some false) (s5f6 : PySem.W.subIn K (.ref C6) (.ref C5) = some false) (s6f6 : PySem.W.subIn K (.ref C6) (.ref C6) = some true) (s7f6 : PySem.W.subIn K (.ref C6) (.ref C7) = some false) (s1f6 : PySem.W.subIn K (.ref C6) (.ref C1) = some true)
    (e17 : PySem.W.findIn K (.ref C7) "__getattribute__" = some (some (.builtin "BaseException.__getattribute__"))) (e27 : PySem.W.findIn K (.ref C7) "__getattr__" = some none) (e37 : PySem.W.hasDictIn K C7 = true) (e47 : PySem.W.findIn K (.ref C7) "__class__" = some (some (.builtin "object.__class__"))) (e77 : PySem.W.mroIn K C7 (.type "object") = some true)
    (s2f7 : PySem.W.subIn K (.ref C7) (.ref C2) = some false) (s3f7 : PySem.W.subIn K (.ref C7) (.ref C3) = some false) (s4f7 : PySem.W.subIn K (.ref C7) (.ref C4) = some false) (s5f7 : PySem.W.subIn K (.ref C7) (.ref C5) = some false) (s6f7 : PySem.W.subIn K (.ref C7) (.ref C6) = some false) (s7f7 : PySem.W.subIn K (.ref C7) (.ref C7) = some true) (s1f7 : PySem.W.subIn K (.ref C7) (.ref C1) = some true)
    (e5 : PySem.W.specialIn K (.builtin "object.__class__") "__get__" = some (some (.builtin "getset_descriptor.__get__"))) (e6 : PySem.W.takesIn K (.builtin "object.__class__") = some true)
    : ∃ (fd : FuncData) (cs : List (Addr × Addr)) (sp : Sp), (∀ p ∈ cs, h.get? p.2 = some { cls := .none, data := .fields #[] }) ∧ (∀ p ∈ cs, K.lookup p.2 = none) ∧ (∀ p ∈ cs, PySem.W.codeHdIn K p.1 p.2 = true) ∧ (∀ (s : Shared) (u : Value), BindsTo s fd ⟨[u], []⟩ [("script", u)]) ∧ (∀ (H : Hp) (a : Addr) (ns : List Int), ns.length ≤ 63 → (∀ p ∈ cs, H p.2 = some (.ext (tabP p.2))) → SqL K H a (ns.map V.int) → sp [.ref a] H (fun v H1 => v = .bl true ∧ ∀ p ∈ cs, H1 p.2 = some (.ext (tabP p.2))) fun _ _ _ => False) ∧ ∀ base : Heap, K.In base → base.Ns mainGlobals mg → (∀ p ∈ cs, GxR.TabB base mg p.1 p.2) → FnG P w K mg base CX0 5 fa fd ["script"] sp := by
  have e := hfa.symm.trans (PySem.W.mg_of X G a32)
  cases e
  have ti13 : PySem.W.tabIn K "is_word" = some (cc13, cp13) := by
    unfold PySem.W.tabIn
    rw [a13]
    simp only [l13, PySem.W.fnOf, lc13, p13]
  have ht13 : h.get? cp13 = some { cls := .none, data := .fields #[] } := by
    obtain ⟨dr, e⟩ := Option.isSome_iff_exists.mp fr13
    exact hT _ _ _ _ e ti13
  refine ⟨PySem.W.fnOf "law" "law" (defArgs (topS 32)) (defBody (topS 32)) (defScope (topS 32)) .none kV32 dc32 pm32 an32 cd32 ct32, [(cc13, cp13)], @spD ⟨[cp13]⟩ (fun ds r => ∀ X : EV.Cl, [X.se, X.na, X.tl, X.mi, X.bp, X.bf, X.br].Nodup → f_law_12 X ds = some r) K, ?_, ?_, ?_, fun s u => .of_eq rfl, fun H a ns hl hH hS => ?_, fun base _ _ TB => ?_⟩
  · intro p m
    simp only [List.mem_cons, List.not_mem_nil, or_false] at m
    rcases m with rfl
    exact ht13
  · intro p m
    simp only [List.mem_cons, List.not_mem_nil, or_false] at m
    rcases m with rfl
    exact nt13
  · intro p m
    simp only [List.mem_cons, List.not_mem_nil, or_false] at m
    rcases m with rfl
    exact hd13
  · letI : TabC := ⟨[cp13]⟩
    have hE : TabsE H := fun p m => by
      have m : p ∈ ([cp13] : List Addr) := m
      simp only [List.mem_cons, List.not_mem_nil, or_false] at m
      rcases m with m
      rw [m]
      exact hH (cc13, cp13) (by simp)
    obtain ⟨F, ds, r, z1, z2, z3, z4⟩ := asked K H a ns hl hE hS
    refine ⟨F, ds, r, z1, z2, z3, fun v F1 H1 s1 x => ⟨(z4 v F1 H1 s1 x).1, fun p m => ?_⟩⟩
    have t := (z4 v F1 H1 s1 x).2
    simp only [List.mem_cons, List.not_mem_nil, or_false] at m
    rcases m with rfl
    exact t cp13 (by show cp13 ∈ ([cp13] : List Addr); simp)
  · letI : TabC := ⟨[cp13]⟩
    have T : Txt K mg (fun i => match i with | 24 => f24 | 25 => f25 | 26 => f26 | 23 => f23 | 27 => f27 | 29 => f29 | 28 => f28 | 19 => f19 | 20 => f20 | 13 => f13 | 14 => f14 | 18 => f18 | 17 => f17 | 30 => f30 | 31 => f31 | 22 => f22 | _ => fa) (fun i => match i with | 24 => PySem.W.fnOf "_law_next" "_law_next" (defArgs (topS 24)) (defBody (topS 24)) (defScope (topS 24)) .none kV24 dc24 pm24 an24 cd24 ct24 | 25 => PySem.W.fnOf "_law_word" "_law_word" (defArgs (topS 25)) (defBody (topS 25)) (defScope (topS 25)) .none kV25 dc25 pm25 an25 cd25 ct25 | 26 => PySem.W.fnOf "_law_letters" "_law_letters" (defArgs (topS 26)) (defBody (topS 26)) (defScope (topS 26)) .none kV26 dc26 pm26 an26 cd26 ct26 | 23 => PySem.W.fnOf "_law_stream" "_law_stream" (defArgs (topS 23)) (defBody (topS 23)) (defScope (topS 23)) .none kV23 dc23 pm23 an23 cd23 ct23 | 27 => PySem.W.fnOf "_law_machine" "_law_machine" (defArgs (topS 27)) (defBody (topS 27)) (defScope (topS 27)) .none kV27 dc27 pm27 an27 cd27 ct27 | 29 => PySem.W.fnOf "_law_log" "_law_log" (defArgs (topS 29)) (defBody (topS 29)) (defScope (topS 29)) .none kV29 dc29 pm29 an29 cd29 ct29 | 28 => PySem.W.fnOf "_law_behind" "_law_behind" (defArgs (topS 28)) (defBody (topS 28)) (defScope (topS 28)) .none kV28 dc28 pm28 an28 cd28 ct28 | 19 => PySem.W.fnOf "room_behind" "room_behind" (defArgs (topS 19)) (defBody (topS 19)) (defScope (topS 19)) .none kV19 dc19 pm19 an19 cd19 ct19 | 20 => PySem.W.fnOf "lets" "lets" (defArgs (topS 20)) (defBody (topS 20)) (defScope (topS 20)) .none kV20 dc20 pm20 an20 cd20 ct20 | 13 => PySem.W.fnOf "is_word" "is_word" (defArgs (topS 13)) (defBody (topS 13)) (defScope (topS 13)) .none kV13 dc13 pm13 an13 (.ref cc13) ct13 | 14 => PySem.W.fnOf "check_letters" "check_letters" (defArgs (topS 14)) (defBody (topS 14)) (defScope (topS 14)) .none kV14 dc14 pm14 an14 cd14 ct14 | 18 => PySem.W.fnOf "_check_rooms" "_check_rooms" (defArgs (topS 18)) (defBody (topS 18)) (defScope (topS 18)) .none kV18 dc18 pm18 an18 cd18 ct18 | 17 => PySem.W.fnOf "check_machine" "check_machine" (defArgs (topS 17)) (defBody (topS 17)) (defScope (topS 17)) .none kV17 dc17 pm17 an17 cd17 ct17 | 30 => PySem.W.fnOf "_law_refused" "_law_refused" (defArgs (topS 30)) (defBody (topS 30)) (defScope (topS 30)) .none kV30 dc30 pm30 an30 cd30 ct30 | 31 => PySem.W.fnOf "_law_spoilt" "_law_spoilt" (defArgs (topS 31)) (defBody (topS 31)) (defScope (topS 31)) .none kV31 dc31 pm31 an31 cd31 ct31 | 22 => PySem.W.fnOf "_law_same" "_law_same" (defArgs (topS 22)) (defBody (topS 22)) (defScope (topS 22)) .none kV22 dc22 pm22 an22 cd22 ct22 | 32 => PySem.W.fnOf "law" "law" (defArgs (topS 32)) (defBody (topS 32)) (defScope (topS 32)) .none kV32 dc32 pm32 an32 cd32 ct32 | _ => PySem.W.fnOf "law" "law" (defArgs (topS 32)) (defBody (topS 32)) (defScope (topS 32)) .none kV32 dc32 pm32 an32 cd32 ct32) (fun i => match i with | 6 => C6 | 5 => C5 | 7 => C7 | 4 => C4 | 2 => C2 | 1 => C1 | 3 => C3 | _ => C6) (fun i => match i with | 13 => cc13 | _ => fa) (fun i => match i with | 13 => cp13 | _ => fa) base := {
        F_l_next := fun_mk (st := topS 24) l24 c24 k24,
        g_l_next := PySem.W.mg_of X G a24,
        b_l_next := (fun_mk (st := topS 24) l24 c24 k24).binds (ps := ["state", "many"]) fun _ _ _ _ _ _ us hl => match us, hl with | [_, _], _ => rfl,
        F_l_word := fun_mk (st := topS 25) l25 c25 k25,
        g_l_word := PySem.W.mg_of X G a25,
        b_l_word := (fun_mk (st := topS 25) l25 c25 k25).binds (ps := ["state", "taken"]) fun _ _ _ _ _ _ us hl => match us, hl with | [_, _], _ => rfl,
        F_l_letters := fun_mk (st := topS 26) l26 c26 k26,
        g_l_letters := PySem.W.mg_of X G a26,
        b_l_letters := (fun_mk (st := topS 26) l26 c26 k26).binds (ps := ["state", "many"]) fun _ _ _ _ _ _ us hl => match us, hl with | [_, _], _ => rfl,
        F_l_stream := fun_mk (st := topS 23) l23 c23 k23,
        g_l_stream := PySem.W.mg_of X G a23,
        b_l_stream := (fun_mk (st := topS 23) l23 c23 k23).binds (ps := ["script"]) fun _ _ _ _ _ _ us hl => match us, hl with | [_], _ => rfl,
        F_l_machine := fun_mk (st := topS 27) l27 c27 k27,
        g_l_machine := PySem.W.mg_of X G a27,
        b_l_machine := (fun_mk (st := topS 27) l27 c27 k27).binds (ps := ["state", "letters", "rooms"]) fun _ _ _ _ _ _ us hl => match us, hl with | [_, _, _], _ => rfl,
        F_l_log := fun_mk (st := topS 29) l29 c29 k29,
        g_l_log := PySem.W.mg_of X G a29,
        b_l_log := (fun_mk (st := topS 29) l29 c29 k29).binds (ps := ["state", "letters", "many"]) fun _ _ _ _ _ _ us hl => match us, hl with | [_, _, _], _ => rfl,
        F_l_behind := fun_mk (st := topS 28) l28 c28 k28,
        g_l_behind := PySem.W.mg_of X G a28,
        b_l_behind := (fun_mk (st := topS 28) l28 c28 k28).binds (ps := ["machine", "log"]) fun _ _ _ _ _ _ us hl => match us, hl with | [_, _], _ => rfl,
        F_room_behind := fun_mk (st := topS 19) l19 c19 k19,
        g_room_behind := PySem.W.mg_of X G a19,
        b_room_behind := (fun_mk (st := topS 19) l19 c19 k19).binds (ps := ["machine", "log"]) fun _ _ _ _ _ _ us hl => match us, hl with | [_, _], _ => rfl,
        F_lets := fun_mk (st := topS 20) l20 c20 k20,
        g_lets := PySem.W.mg_of X G a20,
        b_lets := (fun_mk (st := topS 20) l20 c20 k20).binds (ps := ["machine", "log"]) fun _ _ _ _ _ _ us hl => match us, hl with | [_, _], _ => rfl,
        F_is_word := fun_mk (st := topS 13) l13 c13 k13,
        g_is_word := PySem.W.mg_of X G a13,
        b_is_word := (fun_mk (st := topS 13) l13 c13 k13).binds (ps := ["text"]) fun _ _ _ _ _ _ us hl => match us, hl with | [_], _ => rfl,
        F_check_letters := fun_mk (st := topS 14) l14 c14 k14,
        g_check_letters := PySem.W.mg_of X G a14,
        b_check_letters := (fun_mk (st := topS 14) l14 c14 k14).binds (ps := ["letters"]) fun _ _ _ _ _ _ us hl => match us, hl with | [_], _ => rfl,
        F_check_rooms := fun_mk (st := topS 18) l18 c18 k18,
        g_check_rooms := PySem.W.mg_of X G a18,
        b_check_rooms := (fun_mk (st := topS 18) l18 c18 k18).binds (ps := ["rooms", "many"]) fun _ _ _ _ _ _ us hl => match us, hl with | [_, _], _ => rfl,
        F_check_machine := fun_mk (st := topS 17) l17 c17 k17,
        g_check_machine := PySem.W.mg_of X G a17,
        b_check_machine := (fun_mk (st := topS 17) l17 c17 k17).binds (ps := ["machine"]) fun _ _ _ _ _ _ us hl => match us, hl with | [_], _ => rfl,
        F_l_refused := fun_mk (st := topS 30) l30 c30 k30,
        g_l_refused := PySem.W.mg_of X G a30,
        b_l_refused := (fun_mk (st := topS 30) l30 c30 k30).binds (ps := ["machine"]) fun _ _ _ _ _ _ us hl => match us, hl with | [_], _ => rfl,
        F_l_spoilt := fun_mk (st := topS 31) l31 c31 k31,
        g_l_spoilt := PySem.W.mg_of X G a31,
        b_l_spoilt := (fun_mk (st := topS 31) l31 c31 k31).binds (ps := ["state", "machine"]) fun _ _ _ _ _ _ us hl => match us, hl with | [_, _], _ => rfl,
        F_l_same := fun_mk (st := topS 22) l22 c22 k22,
        g_l_same := PySem.W.mg_of X G a22,
        b_l_same := (fun_mk (st := topS 22) l22 c22 k22).binds (ps := ["told", "due"]) fun _ _ _ _ _ _ us hl => match us, hl with | [_, _], _ => rfl,
        F_law := fun_mk (st := topS 32) l32 c32 k32,
        g_law := PySem.W.mg_of X G a32,
        b_law := (fun_mk (st := topS 32) l32 c32 k32).binds (ps := ["script"]) fun _ _ _ _ _ _ us hl => match us, hl with | [_], _ => rfl,
        n_abs := PySem.W.mg_none_of X G z_abs,
        n_all := PySem.W.mg_none_of X G z_all,
        n_enumerate := PySem.W.mg_none_of X G z_enumerate,
        n_int := PySem.W.mg_none_of X G z_int,
        n_isinstance := PySem.W.mg_none_of X G z_isinstance,
        n_len := PySem.W.mg_none_of X G z_len,
        n_range := PySem.W.mg_none_of X G z_range,
        n_repr := PySem.W.mg_none_of X G z_repr,
        n_tuple := PySem.W.mg_none_of X G z_tuple,
        c_MAX_LETTERS := ⟨_, PySem.W.mg_of X G v_MAX_LETTERS⟩,
        c_MAX_ROOMS := ⟨_, PySem.W.mg_of X G v_MAX_ROOMS⟩,
        c_MAX_WORD := ⟨_, PySem.W.mg_of X G v_MAX_WORD⟩,
        c_SMALL_LETTERS := ⟨_, PySem.W.mg_of X G v_SMALL_LETTERS⟩,
        g_BadForm := PySem.W.mg_of X G A6,
        g_BadPaper := PySem.W.mg_of X G A5,
        g_Broken := PySem.W.mg_of X G A7,
        g_Missing := PySem.W.mg_of X G A4,
        g_NotAllowed := PySem.W.mg_of X G A2,
        g_ScarpError := PySem.W.mg_of X G A1,
        g_TooLarge := PySem.W.mg_of X G A3,
        x_NotAllowed := xE2,
        k_NotAllowed := kE2,
        s_NotAllowed := bE2,
        t_NotAllowed := tE2,
        kn := ⟨⟨bE1, iE1, tE1⟩, (List.forall_mem_cons.mpr ⟨⟨⟨e12, e22, bE2, e32, e42, e5, e6, e72⟩, iE2, tE2, s2f2, s1f2⟩, (List.forall_mem_cons.mpr ⟨⟨⟨e13, e23, bE3, e33, e43, e5, e6, e73⟩, iE3, tE3, s3f3, s1f3⟩, (List.forall_mem_cons.mpr ⟨⟨⟨e14, e24, bE4, e34, e44, e5, e6, e74⟩, iE4, tE4, s4f4, s1f4⟩, (List.forall_mem_cons.mpr ⟨⟨⟨e15, e25, bE5, e35, e45, e5, e6, e75⟩, iE5, tE5, s5f5, s1f5⟩, (List.forall_mem_cons.mpr ⟨⟨⟨e16, e26, bE6, e36, e46, e5, e6, e76⟩, iE6, tE6, s6f6, s1f6⟩, (List.forall_mem_cons.mpr ⟨⟨⟨e17, e27, bE7, e37, e47, e5, e6, e77⟩, iE7, tE7, s7f7, s1f7⟩, (fun _ m => nomatch m)⟩)⟩)⟩)⟩)⟩)⟩), (List.Pairwise.cons (List.forall_mem_cons.mpr ⟨⟨s3f2, s2f3⟩, (List.forall_mem_cons.mpr ⟨⟨s4f2, s2f4⟩, (List.forall_mem_cons.mpr ⟨⟨s5f2, s2f5⟩, (List.forall_mem_cons.mpr ⟨⟨s6f2, s2f6⟩, (List.forall_mem_cons.mpr ⟨⟨s7f2, s2f7⟩, (fun _ m => nomatch m)⟩)⟩)⟩)⟩)⟩) (List.Pairwise.cons (List.forall_mem_cons.mpr ⟨⟨s4f3, s3f4⟩, (List.forall_mem_cons.mpr ⟨⟨s5f3, s3f5⟩, (List.forall_mem_cons.mpr ⟨⟨s6f3, s3f6⟩, (List.forall_mem_cons.mpr ⟨⟨s7f3, s3f7⟩, (fun _ m => nomatch m)⟩)⟩)⟩)⟩) (List.Pairwise.cons (List.forall_mem_cons.mpr ⟨⟨s5f4, s4f5⟩, (List.forall_mem_cons.mpr ⟨⟨s6f4, s4f6⟩, (List.forall_mem_cons.mpr ⟨⟨s7f4, s4f7⟩, (fun _ m => nomatch m)⟩)⟩)⟩) (List.Pairwise.cons (List.forall_mem_cons.mpr ⟨⟨s6f5, s5f6⟩, (List.forall_mem_cons.mpr ⟨⟨s7f5, s5f7⟩, (fun _ m => nomatch m)⟩)⟩) (List.Pairwise.cons (List.forall_mem_cons.mpr ⟨⟨s7f6, s6f7⟩, (fun _ m => nomatch m)⟩) (List.Pairwise.cons (fun _ m => nomatch m) List.Pairwise.nil))))))⟩,
        q_is_word := ⟨⟨_, _, _, _, _, _, _, _, rfl, l13, c13⟩⟩,
        tb_is_word := TB (cc13, cp13) (by simp),
        pt_is_word := (by show cp13 ∈ ([cp13] : List Addr); simp),
        c_RESERVED := ⟨⟨_, _, _, _, PySem.W.mg_of X G v_RESERVED, lT_RESERVED, rfl, rfl, rfl, zT_RESERVED, wT_RESERVED⟩⟩ }
    exact FnG_allPT (g := CS.f_law_12) (Pr := fun X : EV.Cl => [X.se, X.na, X.tl, X.mi, X.bp, X.bf, X.br].Nodup) _ (ks_nd2 T.kn) (oklaw (P := P) (w := w) (base := base) T)
end K04
open PySem PySem.W PyProof.Rows
set_option maxRecDepth 100000 in
set_option maxHeartbeats 0 in
theorem PySem.Challenge.cw_scarp_k04_machines_read_logs_holds : PySem.Challenge.rw_scarp_k04_machines_read_logs.Holds := by
  w_on; o_law; k_head; (case hw => w_witness2)
  k_fill
  refine DL.walkGT (n := 63) (k := 5) (x := "script") (C := fun _ => L2.CX0) rfl (by decide) rfl ⟨rfl, by decide, by decide⟩ (fun w h Y => PySem.W.kIn_of Y) ?F (fun _ _ _ _ _ z => z)
  case F =>
    intro w mg fa h KX G hT hmg
    refine' K04.facts KX G hT hmg ?a24 ?l24 ?c24 ?k24 ?a25 ?l25 ?c25 ?k25 ?a26 ?l26 ?c26 ?k26 ?a23 ?l23 ?c23 ?k23 ?a27 ?l27 ?c27 ?k27 ?a29 ?l29 ?c29 ?k29 ?a28 ?l28 ?c28 ?k28 ?a19 ?l19 ?c19 ?k19 ?a20 ?l20 ?c20 ?k20 ?a13 ?l13 ?c13 ?k13 ?lc13 ?p13 ?nt13 ?hd13 ?fr13 ?a14 ?l14 ?c14 ?k14 ?a18 ?l18 ?c18 ?k18 ?a17 ?l17 ?c17 ?k17 ?a30 ?l30 ?c30 ?k30 ?a31 ?l31 ?c31 ?k31 ?a22 ?l22 ?c22 ?k22 ?a32 ?l32 ?c32 ?k32 ?v_RESERVED ?lT_RESERVED ?zT_RESERVED ?wT_RESERVED ?z_abs ?z_all ?z_enumerate ?z_int ?z_isinstance ?z_len ?z_range ?z_repr ?z_tuple ?v_MAX_LETTERS ?v_MAX_ROOMS ?v_MAX_WORD ?v_SMALL_LETTERS ?A6 ?A5 ?A7 ?A4 ?A2 ?A1 ?A3 ?xE2 ?kE2 ?bE1 ?tE1 ?iE1 ?bE2 ?tE2 ?iE2 ?bE3 ?tE3 ?iE3 ?bE4 ?tE4 ?iE4 ?bE5 ?tE5 ?iE5 ?bE6 ?tE6 ?iE6 ?bE7 ?tE7 ?iE7 ?e12 ?e22 ?e32 ?e42 ?e72 ?s2f2 ?s3f2 ?s4f2 ?s5f2 ?s6f2 ?s7f2 ?s1f2 ?e13 ?e23 ?e33 ?e43 ?e73 ?s2f3 ?s3f3 ?s4f3 ?s5f3 ?s6f3 ?s7f3 ?s1f3 ?e14 ?e24 ?e34 ?e44 ?e74 ?s2f4 ?s3f4 ?s4f4 ?s5f4 ?s6f4 ?s7f4 ?s1f4 ?e15 ?e25 ?e35 ?e45 ?e75 ?s2f5 ?s3f5 ?s4f5 ?s5f5 ?s6f5 ?s7f5 ?s1f5 ?e16 ?e26 ?e36 ?e46 ?e76 ?s2f6 ?s3f6 ?s4f6 ?s5f6 ?s6f6 ?s7f6 ?s1f6 ?e17 ?e27 ?e37 ?e47 ?e77 ?s2f7 ?s3f7 ?s4f7 ?s5f7 ?s6f7 ?s7f7 ?s1f7 ?e5 ?e6
    (case a24 => k_is)
    (case l24 => k_is)
    (case c24 => k_is)
    (case k24 => k_is)
    (case a25 => k_is)
    (case l25 => k_is)
    (case c25 => k_is)
    (case k25 => k_is)
    (case a26 => k_is)
    (case l26 => k_is)
    (case c26 => k_is)
    (case k26 => k_is)
    (case a23 => k_is)
    (case l23 => k_is)
    (case c23 => k_is)
    (case k23 => k_is)
    (case a27 => k_is)
    (case l27 => k_is)
    (case c27 => k_is)
    (case k27 => k_is)
    (case a29 => k_is)
    (case l29 => k_is)
    (case c29 => k_is)
    (case k29 => k_is)
    (case a28 => k_is)
    (case l28 => k_is)
    (case c28 => k_is)
    (case k28 => k_is)
    (case a19 => k_is)
    (case l19 => k_is)
    (case c19 => k_is)
    (case k19 => k_is)
    (case a20 => k_is)
    (case l20 => k_is)
    (case c20 => k_is)
    (case k20 => k_is)
    (case a13 => k_is)
    (case l13 => k_is)
    (case c13 => k_is)
    (case k13 => k_is)
    (case lc13 => k_is)
    (case p13 => rfl)
    (case nt13 => kernel_rfl)
    (case hd13 => kernel_rfl)
    (case fr13 => kernel_rfl)
    (case a14 => k_is)
    (case l14 => k_is)
    (case c14 => k_is)
    (case k14 => k_is)
    (case a18 => k_is)
    (case l18 => k_is)
    (case c18 => k_is)
    (case k18 => k_is)
    (case a17 => k_is)
    (case l17 => k_is)
    (case c17 => k_is)
    (case k17 => k_is)
    (case a30 => k_is)
    (case l30 => k_is)
    (case c30 => k_is)
    (case k30 => k_is)
    (case a31 => k_is)
    (case l31 => k_is)
    (case c31 => k_is)
    (case k31 => k_is)
    (case a22 => k_is)
    (case l22 => k_is)
    (case c22 => k_is)
    (case k22 => k_is)
    (case a32 => k_is)
    (case l32 => k_is)
    (case c32 => k_is)
    (case k32 => k_is)
    (case v_RESERVED => k_is)
    (case lT_RESERVED => k_is)
    (case zT_RESERVED => decide)
    (case wT_RESERVED => exact .cons K04.rv_str (.cons K04.rv_str (.cons K04.rv_str (.cons K04.rv_str (.cons K04.rv_str (.cons K04.rv_str (.cons K04.rv_str (.nil))))))))
    (case z_abs => k_is)
    (case z_all => k_is)
    (case z_enumerate => k_is)
    (case z_int => k_is)
    (case z_isinstance => k_is)
    (case z_len => k_is)
    (case z_range => k_is)
    (case z_repr => k_is)
    (case z_tuple => k_is)
    (case v_MAX_LETTERS => k_is)
    (case v_MAX_ROOMS => k_is)
    (case v_MAX_WORD => k_is)
    (case v_SMALL_LETTERS => k_is)
    (case A6 => k_is)
    (case A5 => k_is)
    (case A7 => k_is)
    (case A4 => k_is)
    (case A2 => k_is)
    (case A1 => k_is)
    (case A3 => k_is)
    (case xE2 => k_exc)
    (case kE2 => k_is)
    (case bE1 => k_is)
    (case tE1 => k_is)
    (case iE1 => k_is)
    (case bE2 => k_is)
    (case tE2 => k_is)
    (case iE2 => k_is)
    (case bE3 => k_is)
    (case tE3 => k_is)
    (case iE3 => k_is)
    (case bE4 => k_is)
    (case tE4 => k_is)
    (case iE4 => k_is)
    (case bE5 => k_is)
    (case tE5 => k_is)
    (case iE5 => k_is)
    (case bE6 => k_is)
    (case tE6 => k_is)
    (case iE6 => k_is)
    (case bE7 => k_is)
    (case tE7 => k_is)
    (case iE7 => k_is)
    (case e12 => k_is)
    (case e22 => k_is)
    (case e32 => k_is)
    (case e42 => k_is)
    (case e72 => k_is)
    (case s2f2 => first | rfl | k_is)
    (case s3f2 => k_is)
    (case s4f2 => k_is)
    (case s5f2 => k_is)
    (case s6f2 => k_is)
    (case s7f2 => k_is)
    (case s1f2 => k_is)
    (case e13 => k_is)
    (case e23 => k_is)
    (case e33 => k_is)
    (case e43 => k_is)
    (case e73 => k_is)
    (case s2f3 => k_is)
    (case s3f3 => first | rfl | k_is)
    (case s4f3 => k_is)
    (case s5f3 => k_is)
    (case s6f3 => k_is)
    (case s7f3 => k_is)
    (case s1f3 => k_is)
    (case e14 => k_is)
    (case e24 => k_is)
    (case e34 => k_is)
    (case e44 => k_is)
    (case e74 => k_is)
    (case s2f4 => k_is)
    (case s3f4 => k_is)
    (case s4f4 => first | rfl | k_is)
    (case s5f4 => k_is)
    (case s6f4 => k_is)
    (case s7f4 => k_is)
    (case s1f4 => k_is)
    (case e15 => k_is)
    (case e25 => k_is)
    (case e35 => k_is)
    (case e45 => k_is)
    (case e75 => k_is)
    (case s2f5 => k_is)
    (case s3f5 => k_is)
    (case s4f5 => k_is)
    (case s5f5 => first | rfl | k_is)
    (case s6f5 => k_is)
    (case s7f5 => k_is)
    (case s1f5 => k_is)
    (case e16 => k_is)
    (case e26 => k_is)
    (case e36 => k_is)
    (case e46 => k_is)
    (case e76 => k_is)
    (case s2f6 => k_is)
    (case s3f6 => k_is)
    (case s4f6 => k_is)
    (case s5f6 => k_is)
    (case s6f6 => first | rfl | k_is)
    (case s7f6 => k_is)
    (case s1f6 => k_is)
    (case e17 => k_is)
    (case e27 => k_is)
    (case e37 => k_is)
    (case e47 => k_is)
    (case e77 => k_is)
    (case s2f7 => k_is)
    (case s3f7 => k_is)
    (case s4f7 => k_is)
    (case s5f7 => k_is)
    (case s6f7 => k_is)
    (case s7f7 => first | rfl | k_is)
    (case s1f7 => k_is)
    (case e5 => k_is)
    (case e6 => k_is)
